import unittest
from copy import deepcopy
from itertools import permutations

from taglook.errors import Loop, Tangled
from taglook.lines import lines_of
from taglook.merging import is_ring

from tests import eldersets, rowsets


def refusal_of(elders):
    try:
        lines_of(elders)
    except (Loop, Tangled) as refusal:
        return refusal
    return None


class Lines(unittest.TestCase):
    def test_no_kinds(self):
        self.assertEqual(lines_of({}), {})

    def test_a_kind_without_elders(self):
        self.assertEqual(lines_of({"a": []}), {"a": ["a"]})

    def test_one_elder_behind_another(self):
        self.assertEqual(lines_of({"a": [], "b": ["a"], "c": ["b"]})["c"], ["c", "b", "a"])

    def test_elders_in_their_order(self):
        self.assertEqual(lines_of({"a": [], "b": [], "c": ["b", "a"]})["c"], ["c", "b", "a"])

    def test_lines_of_elders_go_ahead_of_the_row_of_elders(self):
        self.assertEqual(lines_of(eldersets.DIAMOND)["d"], ["d", "b", "c", "a"])
        elders = {"x": [], "y": [], "a": ["x"], "b": ["y"], "c": ["a", "b"]}
        self.assertEqual(lines_of(elders)["c"], ["c", "a", "x", "b", "y"])

    def test_the_row_of_elders_is_kept(self):
        # The lines of the elders alone would let c have the line c, a, o.
        elders = {"o": [], "a": ["o"], "c": ["o", "a"]}
        self.assertIsInstance(refusal_of(elders), Tangled)

    def test_the_dict_has_the_order_of_the_keys(self):
        for names in permutations("abcd"):
            told = lines_of(eldersets.reordered(eldersets.DIAMOND, names))
            self.assertEqual(list(told), list(names))
            self.assertEqual(told, lines_of(eldersets.DIAMOND))

    def test_twelve_kinds_one_behind_another(self):
        names = "abcdefghijkl"
        for order in [names, names[::-1], names[6:] + names[:6]]:
            elders = {name: list(names[names.index(name) + 1:][:5]) for name in order}
            told = lines_of(elders)
            self.assertEqual(told["a"], list(names))
            self.assertEqual(list(told), list(order))


class AgainstTheRule(unittest.TestCase):
    def test_all_elders_of_four_kinds_without_a_loop(self):
        for elders in eldersets.loopless_elders("abcd"):
            self.check(elders)

    def test_many_of_five_and_six_kinds(self):
        for place, elders in enumerate(eldersets.loopless_elders("abcde")):
            if place % 7 == 0:
                self.check(elders)
                self.check({**elders, "f": ["e", "d"]})
                self.check(eldersets.reordered(elders, "ecadb"))

    def test_all_of_three_kinds_with_loops(self):
        for elders in eldersets.every_elders("abc"):
            if eldersets.has_loop(elders):
                refusal = refusal_of(elders)
                self.assertIsInstance(refusal, Loop, elders)
                self.assertTrue(eldersets.is_loop_in_words(elders, refusal.ring))

    def check(self, elders):
        tangled = eldersets.tangled_in_words(elders)
        if tangled:
            refusal = refusal_of(elders)
            self.assertIsInstance(refusal, Tangled, elders)
            self.assertEqual(refusal.name, tangled[0])
            rows = eldersets.rows_in_words(elders, tangled[0])
            self.assertTrue(rowsets.is_ring_in_words(rows, refusal.steps), (elders, refusal.steps))
        else:
            told = lines_of(elders)
            self.assertEqual(list(told), list(elders))
            for name in elders:
                self.assertEqual(told[name], eldersets.line_in_words(elders, name), elders)
            self.check_kept(elders, told)

    def check_kept(self, elders, told):
        for name, line in told.items():
            self.assertEqual(line[0], name)
            self.assertEqual(sorted(line[1:]), sorted(eldersets.reached(elders, name)))
            self.assertTrue(rowsets.keeps(line, elders[name]))
            for other in line:
                self.assertTrue(rowsets.keeps(line, told[other]))


class Refused(unittest.TestCase):
    def check_tangled(self, elders, name):
        refusal = refusal_of(elders)
        self.assertIsInstance(refusal, Tangled)
        self.assertEqual(refusal.name, name)
        self.assertIs(type(refusal.steps), list)
        self.assertIs(is_ring(eldersets.rows_in_words(elders, name), refusal.steps), True)

    def test_loops(self):
        for elders in [{"a": ["a"]}, {"a": ["b"], "b": ["a"]}, {"a": [], "b": ["c", "a"], "c": ["d"], "d": ["b"]}]:
            refusal = refusal_of(elders)
            self.assertIsInstance(refusal, Loop)
            self.assertTrue(eldersets.is_loop_in_words(elders, refusal.ring))

    def test_rows_that_cannot_be_merged(self):
        self.check_tangled(eldersets.TANGLE, "e")

    def test_an_elder_ahead_of_its_own_heir(self):
        self.check_tangled({"a": [], "b": ["a"], "c": ["a", "b"]}, "c")
        self.assertEqual(lines_of({"a": [], "b": ["a"], "c": ["b", "a"]})["c"], ["c", "b", "a"])

    def test_loop_ahead_of_tangled(self):
        for loop in [{"x": ["x"]}, {"x": ["y"], "y": ["x"]}, {"x": ["e", "y"], "y": ["x"]}]:
            for elders in [{**eldersets.TANGLE, **loop}, {**loop, **eldersets.TANGLE}]:
                refusal = refusal_of(elders)
                self.assertIsInstance(refusal, Loop)
                self.assertEqual(set(refusal.ring), set(loop))

    def test_a_kind_that_would_be_tangled_by_kinds_of_the_loop(self):
        elders = {"a": ["b"], "b": ["a"], "c": ["a", "b"], "d": ["b", "a"], "e": ["c", "d"]}
        self.assertIsInstance(refusal_of(elders), Loop)

    def test_the_first_tangled_one_in_the_order_of_the_keys(self):
        elders = {**eldersets.KNOT, "e": ["c", "d"], "f": ["d", "c"]}
        self.check_tangled(elders, "e")
        self.check_tangled(eldersets.reordered(elders, "fedcba"), "f")
        for names in permutations("abcdef"):
            first = [name for name in names if name in "ef"][0]
            self.check_tangled(eldersets.reordered(elders, names), first)

    def test_heirs_of_a_tangled_one_are_not_told(self):
        elders = {"g": ["e"], "h": ["a", "g"], **eldersets.TANGLE}
        self.check_tangled(elders, "e")

    def test_a_deep_tangle_ahead_of_a_shallow_one_by_keys_alone(self):
        deep = {"y": ["x", "w"], "x": ["w"], "w": ["v"], "v": [], "z": ["w", "y"], "e": ["c", "d"], **eldersets.KNOT}
        self.check_tangled(deep, "z")
        self.check_tangled(eldersets.reordered(deep, "eyxwvzabcd"), "e")


class HandedInAndTold(unittest.TestCase):
    def test_what_is_handed_in_stays(self):
        for elders in [eldersets.DIAMOND, eldersets.TANGLE, {"a": ["b"], "b": ["a"]}]:
            handed = deepcopy(elders)
            refusal_of(handed)
            self.assertEqual(handed, elders)
            self.assertEqual(list(handed), list(elders))

    def test_told_lists_are_the_askers_own(self):
        elders = deepcopy(eldersets.DIAMOND)
        told = lines_of(elders)
        before = deepcopy(told)
        for line in list(told.values()):
            line.append("x")
        self.assertEqual(elders, eldersets.DIAMOND)
        self.assertEqual(told, {name: line + ["x"] for name, line in before.items()})
        self.assertEqual(lines_of(elders), before)

    def test_elders_changed_behind_change_nothing(self):
        elders = deepcopy(eldersets.DIAMOND)
        told = lines_of(elders)
        elders["d"].clear()
        elders.pop("a")
        self.assertEqual(told["d"], ["d", "b", "c", "a"])


if __name__ == "__main__":
    unittest.main()
