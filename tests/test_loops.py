import unittest
from copy import deepcopy
from itertools import permutations, product

from taglook.loops import is_loop, loop_of

from tests import eldersets

THREE = {"a": ["d", "b"], "b": ["d", "c"], "c": ["a"], "d": []}


class LoopOf(unittest.TestCase):
    def check_told(self, elders):
        ring = loop_of(elders)
        if eldersets.has_loop(elders):
            self.assertIs(type(ring), list)
            self.assertTrue(eldersets.is_loop_in_words(elders, ring), (elders, ring))
            self.assertIs(is_loop(elders, ring), True)
        else:
            self.assertIsNone(ring, elders)

    def test_without_kinds(self):
        self.assertIsNone(loop_of({}))

    def test_without_a_loop(self):
        for elders in [{"a": []}, {"a": [], "b": []}, eldersets.DIAMOND, eldersets.TANGLE]:
            self.assertIsNone(loop_of(elders))

    def test_a_kind_that_is_its_own_elder(self):
        self.assertEqual(loop_of({"a": ["a"]}), ["a"])
        self.assertEqual(loop_of({"b": [], "a": ["b", "a"], "c": ["a", "b"]}), ["a"])

    def test_loops_of_two_and_more(self):
        self.assertIn(loop_of({"a": ["b"], "b": ["a"]}), [["a", "b"], ["b", "a"]])
        for count in range(2, 13):
            names = "abcdefghijkl"[:count]
            elders = {name: [names[(k + 1) % count]] for k, name in enumerate(names)}
            self.check_told(elders)
            self.assertEqual(len(loop_of(elders)), count)

    def test_kinds_that_only_lead_to_the_loop_or_come_of_it_are_no_part_of_it(self):
        elders = {"x": ["y"], "y": ["z", "a"], "z": [], "a": ["z", "b"], "b": ["c"], "c": ["z", "a"]}
        self.check_told(elders)
        self.assertEqual(set(loop_of(elders)), {"a", "b", "c"})

    def test_keys_in_every_order(self):
        for elders in [THREE, eldersets.DIAMOND, {"a": ["b"], "b": ["a"], "c": ["c"], "d": ["a", "c"]}]:
            for names in permutations(elders):
                self.check_told(eldersets.reordered(elders, names))

    def test_all_elders_of_three_kinds(self):
        for elders in eldersets.every_elders("abc"):
            self.check_told(elders)

    def test_what_is_handed_in_stays_and_what_is_told_is_new(self):
        elders = deepcopy(THREE)
        ring = loop_of(elders)
        ring.clear()
        self.assertEqual(elders, THREE)
        self.assertEqual(len(loop_of(elders)), 3)


class IsLoop(unittest.TestCase):
    def test_begun_at_each_kind(self):
        for ring in [["a", "b", "c"], ["b", "c", "a"], ["c", "a", "b"]]:
            self.assertIs(is_loop(THREE, ring), True)

    def test_a_kind_alone(self):
        self.assertIs(is_loop({"a": ["a"], "b": ["a"]}, ["a"]), True)
        self.assertIs(is_loop({"a": ["a"], "b": ["a"]}, ["b"]), False)
        self.assertIs(is_loop(THREE, ["d"]), False)

    def test_nothing_in_it(self):
        self.assertIs(is_loop(THREE, []), False)
        self.assertIs(is_loop({}, []), False)

    def test_turned_about(self):
        for ring in [["c", "b", "a"], ["b", "a", "c"], ["a", "c", "b"]]:
            self.assertIs(is_loop(THREE, ring), False)
        self.assertIs(is_loop({"a": ["b"], "b": ["a"]}, ["b", "a"]), True)

    def test_cut(self):
        for ring in [["a"], ["b"], ["c"], ["a", "b"], ["b", "c"], ["c", "a"]]:
            self.assertIs(is_loop(THREE, ring), False, ring)

    def test_one_left_out(self):
        names = "abcde"
        elders = {name: [names[(k + 1) % 5]] for k, name in enumerate(names)}
        self.assertIs(is_loop(elders, list(names)), True)
        for k in range(5):
            self.assertIs(is_loop(elders, list(names[:k] + names[k + 1:])), False)

    def test_one_put_in(self):
        for place in range(4):
            for other in ["a", "b", "c", "d", "x"]:
                ring = ["a", "b", "c"]
                ring.insert(place, other)
                self.assertIs(is_loop(THREE, ring), False, ring)

    def test_doubled(self):
        self.assertIs(is_loop(THREE, ["a", "b", "c"] * 2), False)
        self.assertIs(is_loop({"a": ["a"]}, ["a", "a"]), False)

    def test_two_loops_through_one_kind(self):
        elders = {"a": ["b", "c"], "b": ["a"], "c": ["a"]}
        self.assertIs(is_loop(elders, ["a", "b", "a", "c"]), False)
        self.assertIs(is_loop(elders, ["a", "c"]), True)

    def test_texts_that_are_no_kinds(self):
        for ring in [["x"], ["x", "y"], ["a", "b", "c", "x"], ["", "a"], ["A"], ["a,b"], ["a", "b", "C"], [" a"]]:
            self.assertIs(is_loop(THREE, ring), False, ring)
        self.assertIs(is_loop({}, ["a"]), False)

    def test_every_list_of_every_three_kinds(self):
        rings = [list(ring) for length in range(4) for ring in product("abx", repeat=length)]
        for elders in eldersets.every_elders("ab"):
            for ring in rings:
                self.assertIs(is_loop(elders, ring), eldersets.is_loop_in_words(elders, ring), (elders, ring))

    def test_what_is_handed_in_stays(self):
        elders, ring = deepcopy(THREE), ["a", "b", "c"]
        is_loop(elders, ring)
        self.assertEqual((elders, ring), (THREE, ["a", "b", "c"]))


if __name__ == "__main__":
    unittest.main()
