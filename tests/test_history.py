import unittest
from copy import deepcopy
from random import Random

from taglook.errors import (
    Heired, Loop, LookError, NoKind, NoName, NoStrength, NothingBack, Tangled, TooMany, Twice,
)
from taglook.history import History
from taglook.sites import Site

from tests import eldersets
from tests.refused import no_names, refusal, refused
from tests.towns import WORDS, state, town_of


def kinds_state(town):
    """Kinds in their order, with their elders and lines."""
    return [(name, town.elders_of(name), town.line(name)) for name in town.kinds()]


class HistoryCase(unittest.TestCase):
    def setUp(self):
        # The line of d is d, b, c, a.
        self.town, self.teller = town_of({**eldersets.DIAMOND, "x": []}, {("c", "w"): 1, ("a", "w"): 2})
        self.history = History(self.town)

    def check_refused(self, told, call, *handed):
        before, done = state(self.town), self.history.done()
        self.assertEqual(refused(call, *handed), told)
        self.assertEqual((state(self.town), self.history.done()), (before, done))

    def known(self):
        return [self.town.known(kind, word) for kind in self.town.kinds() for word in WORDS]


class Doing(HistoryCase):
    def test_made(self):
        self.assertIs(self.history.town, self.town)
        self.assertEqual(self.history.done(), 0)
        self.assertEqual(self.town.deeds(), 5)

    def test_told_as_by_the_town(self):
        history = self.history
        self.assertEqual(history.add("y", ["d"], 1), ["y"])
        self.assertEqual(history.add("z", ["y"]), ["z"])
        self.assertEqual(history.add("u", [], at=0), ["u"])
        self.assertEqual(history.add(name="v", elders=[], at=None), ["v"])
        self.assertEqual(self.town.kinds(), ["u", "a", "y", "b", "c", "d", "x", "z", "v"])
        self.assertEqual(history.drop("z"), [])
        self.assertEqual(history.shift([("d", ["c", "b"])], [("a", "w", 1)]), ["y", "d"])
        self.assertEqual(history.shift([], [("a", "w", 2)]), ["a", "y", "b", "c", "d"])
        self.assertEqual(history.shift([], []), [])
        self.assertEqual((history.done(), self.town.deeds()), (8, 13))

    def test_refused_as_by_the_town_and_not_noted(self):
        history = self.history
        history.shift([], [("a", "w", 1)])
        self.check_refused((Twice, "a"), history.add, "a", ["no"])
        self.check_refused((NoKind, "no"), history.add, "y", ["no"])
        self.check_refused((TooMany, 5), history.add, "y", ["no"] * 6)
        self.check_refused((NoKind, "no"), history.drop, "no")
        self.check_refused((Heired, "a", "b"), history.drop, "a")
        self.check_refused((NoKind, "no"), history.shift, [("no", [])], [("nor", "w", 1)])
        self.check_refused((Twice, "a"), history.shift, [("a", []), ("a", ["no"])], [])
        self.check_refused((NoKind, "no"), history.shift, [("a", ["no"])], [("a", "W", 1)])
        self.check_refused((NoKind, "nor"), history.shift, [("a", ["a"])], [("nor", "w", 1)])
        self.check_refused((NoName, ""), history.shift, [("a", ["a"])], [("a", "", 3)])
        self.check_refused((NoStrength, 3), history.shift, [("a", ["a"])], [("a", "w", 1), ("a", "w", 3)])
        self.check_refused((Twice, "w"), history.shift, [("a", ["a"])], [("a", "w", 1), ("a", "w", 1)])
        for call, handed, error in [
            (history.shift, ([("a", ["a"])], []), Loop), (history.shift, ([("d", ["a", "b"])], []), Tangled),
            (history.add, ("y", ["a", "b"]), Tangled),
        ]:
            before = state(self.town)
            self.assertIsInstance(refusal(call, *handed), error)
            self.assertEqual((state(self.town), history.done()), (before, 1))
        for thing in no_names():
            self.assertIsInstance(refusal(history.add, thing, []), NoName)
            self.assertIsInstance(refusal(history.shift, [], [("a", thing, 1)]), NoName)
        self.assertEqual(history.done(), 1)

    def test_what_is_noted_is_not_read(self):
        self.history.shift([("d", [])], [("a", "w", 1), ("b", "w", None)])
        self.history.drop("d")
        self.history.back()
        self.history.back()
        self.assertEqual(self.teller.asked, [])


class TakingBack(HistoryCase):
    def test_nothing_to_take_back(self):
        self.check_refused((NothingBack,), self.history.back)
        self.history.add("y", [])
        self.history.back()
        self.check_refused((NothingBack,), self.history.back)

    def test_an_adding(self):
        before = kinds_state(self.town)
        self.history.add("y", ["d"], 2)
        self.assertEqual(self.history.back(), [])
        self.assertEqual(kinds_state(self.town), before)
        self.assertEqual((self.history.done(), self.town.deeds()), (0, 7))

    def test_a_dropping_brings_the_place_and_the_elders_back(self):
        for place in range(6):
            self.setUp()
            self.town.add("y", ["c", "x"], place)
            before = kinds_state(self.town)
            self.history.drop("y")
            self.assertEqual(self.history.back(), ["y"])
            self.assertEqual(kinds_state(self.town), before)
            self.assertEqual(self.town.tag("y"), self.town.deeds())

    def test_what_was_known_of_a_dropped_kind_stays_forgotten(self):
        self.town.look("x", "w")
        self.town.shift([], [("x", "v", 2)])
        self.history.drop("x")
        self.history.back()
        self.assertEqual(self.town.facts.words_known("x"), [])

    def test_a_dropping_where_there_are_fewer_kinds_by_now(self):
        self.history.drop("x")
        self.town.drop("d")
        self.assertEqual(self.history.back(), ["x"])
        self.assertEqual(self.town.kinds(), ["a", "b", "c", "x"])

    def test_a_dropping_where_there_are_more_kinds_by_now(self):
        self.history.drop("d")
        self.town.add("y", [], 0)
        self.history.back()
        self.assertEqual(self.town.kinds(), ["y", "a", "b", "d", "c", "x"])

    def test_turns(self):
        before = kinds_state(self.town)
        self.history.shift([("d", ["c"]), ("a", ["x"]), ("b", [])], [])
        self.assertEqual(self.history.back(), ["a", "b", "c", "d"])
        self.assertEqual(kinds_state(self.town), before)

    def test_turns_that_can_only_be_taken_back_together(self):
        before = kinds_state(self.town)
        self.history.shift([("a", ["b"]), ("b", []), ("c", []), ("d", [])], [])
        self.history.back()
        self.assertEqual(kinds_state(self.town), before)

    def test_facts(self):
        # Ahead of the shift the first is read, the second told, the third doubted, of the fourth nothing was known.
        self.town.look("a", "w")
        self.town.shift([], [("b", "w", 1), ("c", "w", 2)])
        self.town.shift([], [("c", "w", None)])
        before = self.known()
        facts = [(kind, "w") for kind in "abcd"]
        for ones in [(0, 0, 0, 0), (1, 2, 1, 2), (None, None, None, None), (2, 1, None, None), (2, 1, 0, 0)]:
            self.history.shift([], [(kind, word, one) for (kind, word), one in zip(facts, ones)])
            self.assertEqual([self.town.known(*fact) for fact in facts], list(ones))
            self.history.back()
            self.assertEqual(self.known(), before)
        self.assertEqual([self.town.known(*fact) for fact in facts], [2, 1, None, None])
        self.assertEqual(self.town.reads(), [("a", "w")])

    def test_what_became_known_beside_a_shift_stays(self):
        self.history.shift([], [("a", "w", 1)])
        self.town.look("x", "w")
        self.history.back()
        self.assertEqual((self.town.known("a", "w"), self.town.known("x", "w")), (None, 0))

    def test_told_is_what_the_deed_touched(self):
        self.history.shift([], [("c", "w", 1)])
        # It was not known, so it is doubted.
        self.assertEqual(self.history.back(), ["c", "d"])
        self.history.shift([], [("c", "w", None)])
        self.assertEqual(self.history.back(), [])
        self.history.shift([], [])
        self.assertEqual(self.history.back(), [])

    def test_one_deed_of_the_town_each(self):
        self.history.add("y", [])
        self.history.shift([("y", ["a"])], [("y", "w", 1)])
        self.history.drop("y")
        for deeds in [9, 10, 11]:
            self.history.back()
            self.assertEqual(self.town.deeds(), deeds)

    def test_one_behind_another_all_the_way_back(self):
        deeds = [
            lambda: self.history.add("y", ["d"], 0),
            lambda: self.history.shift([("y", ["b"])], [("y", "w", 2)]),
            lambda: self.history.shift([("d", ["c", "b"])], [("a", "w", 0), ("y", "w", None)]),
            lambda: self.history.drop("y"),
            lambda: self.history.add("z", ["a"], 3),
            lambda: self.history.shift([], []),
            lambda: self.history.drop("d"),
            lambda: self.history.drop("b"),
        ]
        states = []
        for deed in deeds:
            states.append(kinds_state(self.town))
            deed()
        for place in reversed(range(len(deeds))):
            self.assertEqual(self.history.done(), place + 1)
            self.history.back()
            self.assertEqual(kinds_state(self.town), states[place])
        self.check_refused((NothingBack,), self.history.back)

    def test_done_again_and_taken_back_again(self):
        before = kinds_state(self.town)
        for unused in range(3):
            self.history.add("y", ["d"])
            self.history.shift([("y", [])], [])
            self.history.back()
            self.history.back()
            self.assertEqual(kinds_state(self.town), before)
        self.assertEqual(self.history.done(), 0)

    def test_many_rows_of_deeds_drawn_by_a_seed(self):
        for seed in range(15):
            self.setUp()
            random, states = Random(seed), []
            for unused in range(40):
                self.some_deed(random, states)
            while states:
                self.assertEqual(self.history.done(), len(states))
                self.history.back()
                self.assertEqual(kinds_state(self.town), states.pop())
            self.check_refused((NothingBack,), self.history.back)

    def some_deed(self, random, states):
        before, kinds, sort = kinds_state(self.town), self.town.kinds(), random.choice(["add", "drop", "shift", "back"])
        elders = random.sample(kinds, min(len(kinds), random.randint(0, 3)))
        try:
            if sort == "add":
                self.history.add(random.choice("opqrst"), elders, random.randint(0, len(kinds)))
            elif sort == "drop":
                self.history.drop(random.choice(kinds))
            elif sort == "shift":
                self.history.shift([(random.choice(kinds), elders)], [(random.choice(kinds), "w", random.choice([0, 1, None]))])
            else:
                self.history.back()
                self.assertEqual(kinds_state(self.town), states.pop())
                return
        except LookError:
            self.assertEqual(kinds_state(self.town), before)
        else:
            states.append(before)


class BesideTheHistory(HistoryCase):
    def test_an_adding_barred_by_an_heir(self):
        self.history.add("y", [])
        self.town.add("z", ["y"])
        self.check_refused((Heired, "y", "z"), self.history.back)
        self.town.drop("z")
        self.assertEqual(self.history.back(), [])
        self.assertEqual(self.history.done(), 0)

    def test_an_adding_of_what_is_gone(self):
        self.history.add("y", [])
        self.town.drop("y")
        self.check_refused((NoKind, "y"), self.history.back)
        self.assertEqual(self.history.done(), 1)
        self.town.add("y", ["a"])
        self.assertEqual(self.history.back(), [])

    def test_a_dropping_barred(self):
        self.history.drop("x")
        self.town.add("x", ["a"])
        self.check_refused((Twice, "x"), self.history.back)
        self.town.drop("x")
        self.assertEqual(self.history.back(), ["x"])
        self.assertEqual(self.town.elders_of("x"), [])

    def test_a_dropping_barred_by_too_many(self):
        self.history.drop("x")
        for name in "opqrstuv":
            self.town.add(name, [])
        self.check_refused((TooMany, 12), self.history.back)
        self.town.drop("o")
        self.history.back()
        self.assertEqual(self.town.kinds(), list("abcdxpqrstuv"))

    def test_a_dropping_barred_by_an_elder_that_went(self):
        self.history.drop("d")
        self.town.drop("b")
        self.check_refused((NoKind, "b"), self.history.back)
        self.town.add("b", ["a"])
        self.assertEqual(self.history.back(), ["d"])
        self.assertEqual(self.town.kinds(), ["a", "c", "x", "d", "b"])

    def test_a_shift_barred_by_a_loop(self):
        self.history.shift([("b", [])], [("b", "w", 2)])
        self.town.shift([("a", ["b"]), ("d", [])], [])
        before = state(self.town)
        self.assertIsInstance(refusal(self.history.back), Loop)
        self.assertEqual((state(self.town), self.history.done()), (before, 1))
        self.town.shift([("a", []), ("d", ["b", "c"])], [])
        self.assertEqual(self.history.back(), ["b", "d"])
        self.assertEqual((self.town.elders_of("b"), self.town.known("b", "w")), (["a"], None))

    def test_a_shift_barred_by_a_tangle(self):
        self.history.shift([("d", ["c", "b"])], [])
        self.town.add("y", ["d", "c"])
        self.town.add("z", ["b", "c"])
        self.town.shift([("y", ["c", "b"])], [])
        self.town.shift([("x", ["d", "y"])], [])
        before = state(self.town)
        told = refusal(self.history.back)
        self.assertIsInstance(told, Tangled)
        self.assertEqual(told.name, "x")
        self.assertEqual((state(self.town), self.history.done()), (before, 1))
        self.town.shift([("x", [])], [])
        self.history.back()
        self.assertEqual(self.town.elders_of("d"), ["b", "c"])

    def test_a_shift_barred_by_kinds_that_went(self):
        self.history.shift([("d", [])], [("x", "w", 1)])
        self.town.drop("x")
        self.check_refused((NoKind, "x"), self.history.back)
        self.town.drop("d")
        self.check_refused((NoKind, "d"), self.history.back)
        self.town.add("x", [])
        self.town.add("d", [])
        self.assertEqual(self.history.back(), ["d"])
        self.assertIsNone(self.town.known("x", "w"))

    def test_facts_told_beside_are_made_what_they_were_ahead(self):
        self.town.shift([], [("a", "w", 1)])
        self.history.shift([], [("a", "w", 2)])
        self.town.shift([], [("a", "w", 0), ("a", "v", 2)])
        self.history.back()
        self.assertEqual((self.town.known("a", "w"), self.town.known("a", "v")), (1, 2))

    def test_two_histories_of_one_town(self):
        other = History(self.town)
        self.history.add("y", [])
        other.add("z", ["y"])
        self.assertEqual((self.history.done(), other.done()), (1, 1))
        self.check_refused((Heired, "y", "z"), self.history.back)
        other.back()
        self.history.back()
        self.assertEqual((self.history.done(), other.done()), (0, 0))
        self.check_refused((NothingBack,), other.back)


class Apart(HistoryCase):
    def test_what_was_handed_in_changed_behind(self):
        elders, others = ["a"], ["c", "b"]
        turns, facts = [("d", others)], [("a", "w", 1)]
        self.history.add("y", elders)
        self.history.shift(turns, facts)
        elders.append("x")
        others.clear()
        turns.clear()
        facts.clear()
        self.assertEqual((self.town.elders_of("y"), self.town.elders_of("d")), (["a"], ["c", "b"]))
        self.history.back()
        self.assertEqual(self.town.elders_of("d"), ["b", "c"])
        self.assertIsNone(self.town.known("a", "w"))

    def test_what_was_handed_in_stays(self):
        turns, facts = [("d", ["c", "b"])], [("a", "w", 1)]
        handed = deepcopy((turns, facts))
        self.history.shift(turns, facts)
        self.history.back()
        self.assertEqual((turns, facts), handed)

    def test_told_lists_changed_behind(self):
        self.town.elders_of("d").clear()
        self.history.drop("d").append("x")
        self.history.back().clear()
        self.history.shift([("d", [])], []).clear()
        self.history.back().clear()
        self.assertEqual((self.town.elders_of("d"), self.town.tag("d")), (["b", "c"], self.town.deeds()))


class KeptAnswers(HistoryCase):
    """A kept answer outlives a deed that is taken back."""

    PAPER = (("d", "b"), "c", 1)

    def check_outlives(self, turns, facts, way):
        self.setUp()
        site = Site(self.town, "w")
        self.assertEqual(site.ask("d"), (self.PAPER, "anew"))
        reads = self.town.reads()
        self.history.shift(turns, facts)
        self.history.back()
        self.assertEqual(site.ask("d"), (self.PAPER, way))
        self.assertEqual(self.town.reads(), reads)

    def test_held_where_these_deeds_touched(self):
        self.check_outlives([("d", ["c", "b"])], [], "held")
        self.check_outlives([("d", [])], [("b", "w", 2), ("c", "w", None)], "held")
        self.check_outlives([], [("d", "w", None), ("b", "w", None), ("c", "w", None)], "held")
        self.check_outlives([], [("c", "w", 2)], "held")
        self.check_outlives([], [("a", "w", 1)], "held")
        self.check_outlives([("a", ["x"])], [], "held")

    def test_same_where_no_deed_touched(self):
        self.check_outlives([], [], "same")
        self.check_outlives([("x", ["a"])], [("x", "w", 1)], "same")
        self.check_outlives([("d", ["b", "c"])], [("b", "w", 0)], "same")

    def test_held_where_one_ahead_of_them_touched(self):
        site = Site(self.town, "w")
        site.ask("d")
        self.town.shift([], [("d", "v", 1)])
        self.town.shift([], [("d", "v", 2)])
        self.history.shift([("x", ["a"])], [])
        self.history.back()
        self.assertEqual(site.ask("d"), (self.PAPER, "held"))


if __name__ == "__main__":
    unittest.main()
