import unittest
from copy import deepcopy

from taglook.errors import Loop, NoKind, NoName, NoStrength, Tangled, TooMany, Twice
from taglook.foretell import fallen, foretold
from taglook.merging import is_ring
from taglook.sites import Site

from tests import eldersets
from tests.refused import refusal, refused
from tests.towns import state, town_of


class ForetellCase(unittest.TestCase):
    def setUp(self):
        # The line of d is d, b, c, a; its paper for w is (("d", "b"), "c", 1).
        self.town, self.teller = town_of({**eldersets.DIAMOND, "x": []}, {("c", "w"): 1, ("a", "w"): 2})
        self.site = Site(self.town, "w", 8)

    def check_shift(self, site, turns, facts, told):
        """What is foretold is what is fallen behind the shift, and nothing changes by telling it."""
        before, kept, asked = state(self.town), site.kept(), list(self.teller.asked)
        handed = deepcopy((turns, facts))
        self.assertEqual(foretold(site, turns, facts), told)
        self.assertEqual((turns, facts), handed)
        self.assertEqual((state(self.town), site.kept(), self.teller.asked), (before, kept, asked))
        self.town.shift(turns, facts)
        before = state(self.town)
        self.assertEqual(fallen(site), told)
        self.assertEqual((state(self.town), site.kept(), self.teller.asked), (before, kept, asked))


class Fallen(ForetellCase):
    def test_nothing_kept(self):
        self.assertEqual(fallen(self.site), [])
        self.assertEqual(foretold(self.site, [("d", [])], [("a", "w", 1)]), [])

    def test_nothing_fallen(self):
        for kind in "dabcx":
            self.site.ask(kind)
        self.assertEqual(fallen(self.site), [])
        self.check_shift(self.site, [], [], [])

    def test_by_facts_at_each_place(self):
        for kind, place in [("d", 0), ("b", 1)]:
            for one in [1, 2]:
                self.setUp()
                self.site.ask("d")
                self.check_shift(self.site, [], [(kind, "w", one)], [("d", place)])
        for one in [0, 2]:
            self.setUp()
            self.site.ask("d")
            self.check_shift(self.site, [], [("c", "w", one)], [("d", 2)])

    def test_facts_that_the_paper_does_not_hang_on(self):
        self.site.ask("d")
        self.check_shift(self.site, [], [("a", "w", 0), ("x", "w", 2), ("d", "v", 2), ("c", "w", 1)], [])

    def test_where_none_was_found(self):
        site = Site(self.town, "v")
        site.ask("d")
        self.check_shift(site, [], [("a", "v", 1)], [("d", 3)])
        self.check_shift(site, [("b", []), ("c", [])], [("a", "v", 0)], [("d", 3)])
        self.check_shift(site, [("c", ["a"])], [], [])
        self.check_shift(site, [("a", ["x"])], [], [("d", 4)])

    def test_by_lines_at_each_place(self):
        self.site.ask("d")
        self.check_shift(self.site, [("d", ["x", "b", "c"])], [], [("d", 1)])
        self.check_shift(self.site, [("d", ["b", "x", "c"])], [], [("d", 2)])
        self.check_shift(self.site, [("d", ["b"])], [], [("d", 2)])
        self.check_shift(self.site, [("d", [])], [], [("d", 1)])
        self.check_shift(self.site, [("d", ["c", "b"])], [], [("d", 1)])
        self.check_shift(self.site, [("d", ["b", "c"])], [], [])
        self.check_shift(self.site, [("c", []), ("b", []), ("a", ["d"])], [], [])

    def test_by_lines_and_facts_at_once(self):
        self.site.ask("d")
        self.check_shift(self.site, [("d", ["c", "b"])], [("d", "w", 1)], [("d", 0)])
        self.check_shift(self.site, [("d", ["b", "c"])], [("d", "w", 0)], [])
        self.check_shift(self.site, [("d", ["c", "b"])], [("c", "w", 2)], [("d", 1)])

    def test_facts_that_are_not_known_count_as_the_paper_has_them(self):
        self.site.ask("d")
        self.teller.facts.update({("d", "w"): 2, ("b", "w"): 1, ("c", "w"): 0})
        self.check_shift(self.site, [], [("d", "w", None), ("b", "w", None), ("c", "w", None)], [])
        self.check_shift(self.site, [], [("c", "w", 1)], [])
        self.check_shift(self.site, [], [("b", "w", 0)], [])
        self.check_shift(self.site, [("d", ["c", "b"])], [], [("d", 1)])
        self.check_shift(self.site, [("d", ["b", "c"])], [("c", "w", 2)], [("d", 2)])

    def test_in_the_order_of_what_is_kept(self):
        for kind in "xdbca":
            self.site.ask(kind)
        self.assertEqual(self.town.look("b", "w"), (("b",), "a", 2))
        self.check_shift(self.site, [], [("b", "w", 1), ("x", "w", 1)], [("x", 0), ("d", 1), ("b", 0)])
        self.check_shift(self.site, [], [("c", "w", 0), ("b", "w", 0), ("a", "w", 1)], [
            ("x", 0), ("d", 2), ("b", 1), ("c", 0), ("a", 0),
        ])

    def test_kinds_that_are_dropped(self):
        self.site.ask("d")
        self.site.ask("x")
        self.check_shift(self.site, [], [("x", "w", 1), ("b", "w", 1)], [("d", 1), ("x", 0)])
        self.town.drop("x")
        self.assertEqual(fallen(self.site), [("d", 1)])
        self.town.drop("d")
        self.assertEqual(fallen(self.site), [])
        self.assertEqual(foretold(self.site, [("b", [])], [("b", "w", 2)]), [])

    def test_kinds_that_are_added_again(self):
        self.site.ask("d")
        self.town.drop("d")
        self.town.add("d", ["b", "c"])
        self.assertEqual(fallen(self.site), [])
        self.town.drop("d")
        self.town.add("d", ["c", "b"])
        self.assertEqual(fallen(self.site), [("d", 1)])

    def test_told_lists_are_new(self):
        self.site.ask("d")
        self.town.shift([], [("d", "w", 1)])
        fallen(self.site).clear()
        foretold(self.site, [], []).clear()
        self.assertEqual(fallen(self.site), [("d", 0)])


class Starts(ForetellCase):
    def setUp(self):
        ForetellCase.setUp(self)
        self.site = Site(self.town, "w", 8, "b")
        self.site.ask("d")
        self.site.ask("b")
        self.assertEqual([paper for kind, paper, tag in self.site.kept()], [((), "c", 1), ((), "a", 2)])

    def test_places_behind_the_start(self):
        self.check_shift(self.site, [], [("c", "w", 2)], [("d", 0)])
        self.check_shift(self.site, [], [("c", "w", 1), ("a", "w", 1)], [("b", 0)])
        self.check_shift(self.site, [("d", ["b", "x", "c"])], [("a", "w", 2)], [("d", 0)])

    def test_what_stands_ahead_of_the_start_does_not_count(self):
        self.check_shift(self.site, [("d", ["x", "b", "c"])], [("d", "w", 2), ("b", "w", 2), ("x", "w", 1)], [])

    def test_a_start_that_no_longer_stands_in_the_line(self):
        self.check_shift(self.site, [("d", ["c"])], [("c", "w", 2), ("a", "w", 1)], [("b", 0)])
        self.check_shift(self.site, [("d", ["b", "c"])], [], [("d", 0), ("b", 0)])

    def test_nothing_behind_the_start(self):
        self.check_shift(self.site, [("b", []), ("d", ["c", "b"])], [], [("d", 0), ("b", 0)])

    def test_a_dropped_start(self):
        self.town.drop("d")
        self.town.drop("b")
        self.assertEqual(fallen(self.site), [])


class WhatComesOfIt(ForetellCase):
    def test_a_fallen_one_is_told_anew(self):
        self.site.ask("d")
        self.town.shift([], [("b", "w", 2)])
        self.assertEqual(fallen(self.site), [("d", 1)])
        self.assertEqual(self.site.ask("d"), ((("d",), "b", 2), "anew"))
        self.assertEqual(fallen(self.site), [])

    def test_one_that_is_not_fallen_is_same_or_held(self):
        self.site.ask("d")
        reads = len(self.town.reads())
        self.assertEqual(self.site.ask("d")[1], "same")
        self.town.shift([("c", ["x"]), ("b", [])], [])
        self.assertEqual(fallen(self.site), [])
        self.assertEqual(self.site.ask("d")[1], "held")
        self.assertEqual(len(self.town.reads()), reads)

    def test_one_with_facts_that_are_not_known(self):
        for one, way in [(0, "held"), (1, "anew"), (2, "anew")]:
            self.setUp()
            self.site.ask("d")
            self.town.shift([], [("b", "w", None)])
            self.teller.facts[("b", "w")] = one
            self.assertEqual(fallen(self.site), [])
            self.assertEqual(self.site.ask("d")[1], way)


class Refused(unittest.TestCase):
    def setUp(self):
        self.town, self.teller = town_of({**eldersets.TANGLE_FREE, "f": []})
        self.site = Site(self.town, "w")
        self.site.ask("c")
        self.before = (state(self.town), self.site.kept())

    def tearDown(self):
        self.assertEqual((state(self.town), self.site.kept()), self.before)

    def check_refused(self, turns, facts, told):
        self.assertEqual(refused(foretold, self.site, turns, facts), told)
        self.assertEqual(refused(self.town.shift, turns, facts), told)

    def test_turns_ahead_of_facts(self):
        self.check_refused([("x", [])], [("y", "w", 1)], (NoKind, "x"))
        self.check_refused([("a", []), ("a", [])], [("y", "w", 1)], (Twice, "a"))
        self.check_refused([("a", ["b"] * 6)], [("y", "w", 1)], (TooMany, 5))
        self.check_refused([("a", ["no"])], [("y", "w", 1)], (NoKind, "no"))
        self.check_refused([("a", ["b", "b"])], [("y", "w", 1)], (Twice, "b"))

    def test_facts_ahead_of_loop_and_tangled(self):
        for turns in [[], [("a", ["a"])], [("e", ["c", "d"])]]:
            self.check_refused(turns, [("y", "W", 3)], (NoKind, "y"))
            self.check_refused(turns, [("a", "W", 3)], (NoName, "W"))
            self.check_refused(turns, [("a", "w", 3)], (NoStrength, 3))
            self.check_refused(turns, [("a", "w", True)], (NoStrength, True))
            self.check_refused(turns, [("a", "w", 1), ("a", "w", None)], (Twice, "w"))

    def test_loop_ahead_of_tangled(self):
        told = refusal(foretold, self.site, [("e", ["c", "d"]), ("f", ["f"])], [("a", "w", 1)])
        self.assertIsInstance(told, Loop)
        self.assertEqual(told.ring, ["f"])

    def test_tangled(self):
        told = refusal(foretold, self.site, [("f", ["c", "d"]), ("e", ["c", "d"])], [("a", "w", 1)])
        self.assertIsInstance(told, Tangled)
        self.assertEqual(told.name, "e")
        self.assertIs(is_ring(eldersets.rows_in_words(eldersets.TANGLE, "e"), told.steps), True)

    def test_refused_where_nothing_is_kept(self):
        self.site = Site(self.town, "w")
        self.before = (state(self.town), [])
        self.check_refused([], [("y", "w", 1)], (NoKind, "y"))
        self.assertIsInstance(refusal(foretold, self.site, [("f", ["f"])], []), Loop)


if __name__ == "__main__":
    unittest.main()
