import unittest
from copy import deepcopy
from itertools import permutations

from taglook.errors import Loop, NoKind, Tangled, TooMany, Twice
from taglook.merging import is_ring

from tests import eldersets
from tests.houses import elders_in, house_of, state
from tests.refused import refusal, refused

NAMES = list("abcdefg")
FREE = {name: [] for name in NAMES}


class TurnCase(unittest.TestCase):
    def check_refused(self, house, told, turns):
        """By both ways, and nothing is changed."""
        before = state(house)
        handed = deepcopy(turns)
        self.assertEqual(refused(house.turn_all, handed), told)
        self.assertEqual(refused(house.may_turn, handed), told)
        self.assertEqual(state(house), before)
        self.assertEqual(handed, turns)

    def refused_by_lines(self, house, turns):
        """The refusal of turns of which may_turn tells None."""
        before = state(house)
        self.assertIsNone(house.may_turn(turns))
        told = refusal(house.turn_all, turns)
        self.assertEqual(state(house), before)
        return told

    def elders_behind(self, house, turns):
        return {**elders_in(house), **dict(turns)}

    def check_loop(self, house, turns):
        told = self.refused_by_lines(house, turns)
        self.assertIsInstance(told, Loop)
        self.assertTrue(eldersets.is_loop_in_words(self.elders_behind(house, turns), told.ring))

    def check_tangled(self, house, turns, name):
        told = self.refused_by_lines(house, turns)
        self.assertIsInstance(told, Tangled)
        self.assertEqual(told.name, name)
        rows = eldersets.rows_in_words(self.elders_behind(house, turns), name)
        self.assertIs(is_ring(rows, told.steps), True)


class Turned(TurnCase):
    def test_no_turns(self):
        house = house_of(eldersets.DIAMOND)
        before = state(house)
        self.assertIsNone(house.turn_all([]))
        self.assertIsNone(house.may_turn([]))
        self.assertEqual(state(house), before)

    def test_one(self):
        house = house_of(eldersets.DIAMOND)
        self.assertIsNone(house.turn_all([("d", ["c", "b"])]))
        self.assertEqual(house.line("d"), ["d", "c", "b", "a"])
        self.assertEqual(house.elders_of("d"), ["c", "b"])

    def test_lines_of_heirs_turn_too(self):
        house = house_of(eldersets.DIAMOND)
        house.turn_all([("b", [])])
        self.assertEqual(house.line("b"), ["b"])
        self.assertEqual(house.line("d"), ["d", "b", "c", "a"])
        house.turn_all([("c", [])])
        self.assertEqual(house.line("d"), ["d", "b", "c"])
        self.assertEqual(house.heirs("a"), ["a"])

    def test_several_and_the_order_of_the_kinds_stays(self):
        house = house_of(FREE)
        house.turn_all([("g", ["a"]), ("a", ["c", "b"]), ("d", ["g"])])
        self.assertEqual(house.kinds(), NAMES)
        self.assertEqual(house.line("d"), ["d", "g", "a", "c", "b"])

    def test_to_what_it_was(self):
        house = house_of(eldersets.DIAMOND)
        before = state(house)
        house.turn_all([(name, list(others)) for name, others in eldersets.DIAMOND.items()])
        self.assertEqual(state(house), before)

    def test_five_elders(self):
        house = house_of(FREE)
        house.turn_all([("a", ["b", "c", "d", "e", "f"])])
        self.assertEqual(house.line("a"), ["a", "b", "c", "d", "e", "f"])

    def test_turned_about_together_but_not_one_by_one(self):
        turns = [("a", ["b"]), ("b", [])]
        for order in permutations(turns):
            house = house_of({"a": [], "b": ["a"]})
            self.check_loop(house, [("a", ["b"])])
            house.turn_all(list(order))
            self.assertEqual(house.line("a"), ["a", "b"])
            self.assertEqual(house.line("b"), ["b"])

    def test_untangled_together_but_not_one_by_one(self):
        # h keeps the order of c and of d; either one turned alone would tangle it.
        elders = {"a": [], "b": [], "c": ["a", "b"], "d": ["a", "b"], "h": ["c", "d"]}
        turns = [("c", ["b", "a"]), ("d", ["b", "a"])]
        house = house_of(elders)
        self.check_tangled(house, turns[:1], "h")
        self.check_tangled(house, turns[1:], "h")
        house.turn_all(turns)
        self.assertEqual(house.line("h"), ["h", "c", "d", "b", "a"])

    def test_may_turn_tells_none_and_changes_nothing(self):
        house = house_of(eldersets.DIAMOND)
        before = state(house)
        self.assertIsNone(house.may_turn([("d", []), ("b", ["c"])]))
        self.assertEqual(state(house), before)

    def test_lists_handed_in_changed_behind(self):
        house = house_of(FREE)
        elders = ["b", "c"]
        turns = [("a", elders)]
        house.turn_all(turns)
        elders.reverse()
        turns.clear()
        self.assertEqual(house.elders_of("a"), ["b", "c"])
        self.assertEqual(house.line("a"), ["a", "b", "c"])


class Refused(TurnCase):
    def test_a_name_that_is_no_kind(self):
        house = house_of(FREE)
        for name in ["x", "", "A"]:
            self.check_refused(house, (NoKind, name), [(name, [])])
            self.check_refused(house, (NoKind, name), [("a", []), (name, ["no"] * 6)])
            self.check_refused(house, (NoKind, name), [(name, []), (name, [])])

    def test_a_kind_turned_twice(self):
        house = house_of(FREE)
        self.check_refused(house, (Twice, "a"), [("a", []), ("a", [])])
        self.check_refused(house, (Twice, "a"), [("a", ["b"]), ("c", []), ("a", ["no"] * 6)])
        self.check_refused(house, (Twice, "a"), [("b", []), ("a", []), ("a", ["no"]), ("no", [])])

    def test_six_elders(self):
        house = house_of(FREE)
        self.check_refused(house, (TooMany, 5), [("a", list("bcdefg"))])
        self.check_refused(house, (TooMany, 5), [("a", ["no"] * 6)])
        self.check_refused(house, (TooMany, 5), [("b", ["a"]), ("a", ["b"] * 6)])

    def test_an_elder_that_is_no_kind(self):
        house = house_of(FREE)
        self.check_refused(house, (NoKind, "no"), [("a", ["no"])])
        self.check_refused(house, (NoKind, "no"), [("a", ["b", "no", "b"])])
        self.check_refused(house, (NoKind, "no"), [("a", ["no", "no"])])
        self.check_refused(house, (NoKind, "no"), [("a", ["a", "no"])])

    def test_an_elder_twice(self):
        house = house_of(FREE)
        self.check_refused(house, (Twice, "b"), [("a", ["b", "b"])])
        self.check_refused(house, (Twice, "b"), [("a", ["b", "c", "b", "no"])])
        self.check_refused(house, (Twice, "a"), [("a", ["a", "a"])])

    def test_turn_by_turn(self):
        house = house_of(FREE)
        first_wrong = [
            ((NoKind, "x"), ("x", [])), ((TooMany, 5), ("b", list("abcdef"))),
            ((NoKind, "y"), ("c", ["y"])), ((Twice, "a"), ("d", ["a", "a"])), ((Twice, "e"), ("e", [])),
        ]
        for order in permutations(first_wrong):
            self.check_refused(house, order[0][0], [("e", [])] + [turn for told, turn in order])

    def test_all_that_ahead_of_loop_and_tangled(self):
        house = house_of(eldersets.KNOT)
        self.check_refused(house, (NoKind, "x"), [("a", ["a"]), ("x", [])])
        self.check_refused(house, (NoKind, "no"), [("a", ["c"]), ("b", ["no"])])
        self.check_refused(house, (Twice, "a"), [("a", ["c", "d"]), ("a", [])])
        self.check_refused(house, (Twice, "c"), [("a", ["c", "d", "c"])])


class RefusedByLines(TurnCase):
    def test_a_kind_among_its_own_elders(self):
        house = house_of(FREE)
        self.check_loop(house, [("a", ["a"])])
        self.check_loop(house, [("a", ["b", "a"])])
        self.assertEqual(refusal(house.turn_all, [("b", ["c"]), ("a", ["a"])]).ring, ["a"])

    def test_loops_of_more_kinds(self):
        house = house_of(eldersets.DIAMOND)
        self.check_loop(house, [("a", ["b"])])
        self.check_loop(house, [("a", ["d"])])
        self.check_loop(house, [("b", ["c"]), ("c", ["b"])])
        self.check_loop(house_of(FREE), [("a", ["b"]), ("b", ["c"]), ("c", ["d"]), ("d", ["a"])])

    def test_tangled(self):
        house = house_of(eldersets.KNOT)
        house.add("e", ["c"])
        self.check_tangled(house, [("e", ["c", "d"])], "e")
        self.check_tangled(house, [("e", ["a", "c"])], "e")

    def test_tangled_without_being_turned(self):
        elders = {"a": [], "b": [], "c": ["a", "b"], "d": ["a", "b"], "h": ["c", "d"]}
        self.check_tangled(house_of(elders), [("d", ["b", "a"])], "h")

    def test_loop_ahead_of_tangled(self):
        house = house_of({**eldersets.KNOT, "e": [], "f": []})
        self.check_loop(house, [("e", ["c", "d"]), ("f", ["f"])])
        self.check_loop(house, [("f", ["f"]), ("e", ["c", "d"])])

    def test_the_first_tangled_one_in_the_order_of_the_kinds(self):
        for names in permutations("efg"):
            house = house_of(eldersets.KNOT)
            for name in names:
                house.add(name, [], 0)
            turns = [("f", ["c", "d"]), ("e", ["d", "c"]), ("g", ["f"])]
            first = [name for name in house.kinds() if name in "ef"][0]
            self.check_tangled(house, turns, first)
            self.check_tangled(house, turns[::-1], first)

    def test_by_the_elders_behind_all_turns_alone(self):
        # On the way, with the first turn alone, there would be a loop, then a tangle.
        house = house_of({"a": [], "b": ["a"], "c": ["b", "a"]})
        house.turn_all([("a", ["c"]), ("c", ["b"]), ("b", [])])
        self.assertEqual([house.line(name) for name in "abc"], [["a", "c", "b"], ["b"], ["c", "b"]])


if __name__ == "__main__":
    unittest.main()
