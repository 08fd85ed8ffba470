import unittest
from copy import deepcopy
from itertools import permutations

from taglook.errors import Heired, Loop, NoKind, NoName, NoStrength, Tangled, TooMany, Twice
from taglook.facts import Facts
from taglook.house import House
from taglook.merging import is_ring
from taglook.town import Town

from tests import eldersets
from tests.refused import no_names, refusal, refused
from tests.tellers import Teller, no_strengths
from tests.towns import state, town_of


class TownCase(unittest.TestCase):
    def check_refused(self, town, told, call, *handed):
        before = state(town)
        copies = deepcopy(handed)
        self.assertEqual(refused(call, *handed), told)
        self.assertEqual(state(town), before)
        self.assertEqual(handed, copies)

    def check_shift_refused(self, town, told, turns, facts):
        self.check_refused(town, told, town.shift, turns, facts)
        self.check_refused(town, told, town.may_shift, turns, facts)


class Made(TownCase):
    def test_at_first(self):
        teller = Teller()
        town = Town(teller)
        self.assertEqual((town.kinds(), town.deeds(), town.reads(), teller.asked), ([], 0, [], []))

    def test_values(self):
        town, teller = town_of(eldersets.DIAMOND, {("a", "w"): 2})
        house, facts = town.house, town.facts
        self.assertIsInstance(house, House)
        self.assertIsInstance(facts, Facts)
        town.look("d", "w")
        town.add("x", ["d"], 0)
        town.shift([("b", [])], [("b", "w", 1)])
        self.assertEqual(house.kinds(), ["x", "a", "b", "c", "d"])
        self.assertEqual(house.elders_of("b"), [])
        self.assertEqual((facts.known("b", "w"), facts.known("a", "w")), (1, 2))
        self.assertIs(town.house, house)
        self.assertIs(town.facts, facts)

    def test_towns_apart(self):
        teller = Teller()
        first, second = Town(teller), Town(teller)
        first.add("a", [])
        first.look("a", "w")
        self.assertEqual((second.kinds(), second.deeds(), second.reads()), ([], 0, []))


class AddingAndDropping(TownCase):
    def test_added(self):
        town, teller = town_of({"a": [], "b": ["a"]})
        self.assertEqual(town.add("c", ["b"], 0), ["c"])
        self.assertEqual(town.add("d", ["c"], at=1), ["d"])
        self.assertEqual(town.add("e", ["c"], None), ["e"])
        self.assertEqual(town.add(name="f", elders=[]), ["f"])
        self.assertEqual(town.kinds(), ["c", "d", "a", "b", "e", "f"])
        self.assertEqual(town.line("d"), ["d", "c", "b", "a"])
        self.assertEqual(town.elders_of("d"), ["c"])
        self.assertEqual(town.heirs("c"), ["c", "d", "e"])
        self.assertEqual([town.tag(name) for name in "abcdef"], [1, 2, 3, 4, 5, 6])

    def test_adding_refused_as_in_a_house(self):
        town, teller = town_of({**eldersets.KNOT, **{name: [] for name in "opqrstu"}})
        self.check_refused(town, (Twice, "a"), town.add, "a", ["no"])
        self.check_refused(town, (TooMany, 5), town.add, "x", ["no"] * 6)
        self.check_refused(town, (NoKind, "x"), town.add, "x", ["a", "x"])
        self.check_refused(town, (Twice, "a"), town.add, "x", ["c", "d", "a", "a"])
        before = state(town)
        told = refusal(town.add, "x", ["c", "d"])
        self.assertIsInstance(told, Tangled)
        self.assertEqual(told.name, "x")
        self.assertEqual(state(town), before)
        town.add("z", [])
        self.check_refused(town, (TooMany, 12), town.add, "x", ["no"])
        for thing in no_names():
            self.assertIsInstance(refusal(town.add, thing, ["no"]), NoName)
        self.assertEqual(town.deeds(), 12)

    def test_dropped(self):
        town, teller = town_of(eldersets.DIAMOND)
        self.assertEqual(town.drop("d"), [])
        self.assertEqual(town.kinds(), ["a", "b", "c"])
        self.assertEqual([town.tag(name) for name in "abc"], [1, 2, 3])
        self.assertEqual(town.deeds(), 5)

    def test_dropping_refused_as_in_a_house(self):
        town, teller = town_of(eldersets.DIAMOND)
        self.check_refused(town, (NoKind, "x"), town.drop, "x")
        self.check_refused(town, (Heired, "a", "b"), town.drop, "a")
        town.drop("d")
        self.check_refused(town, (NoKind, "d"), town.drop, "d")
        self.check_refused(town, (Heired, "a", "b"), town.drop, "a")

    def test_facts_of_a_dropped_kind_are_forgotten(self):
        town, teller = town_of({"a": [], "b": ["a"]}, {("b", "w"): 2})
        town.look("b", "v")
        town.look("b", "w")
        town.shift([], [("b", "told", 1)])
        self.assertEqual(town.facts.words_known("b"), ["told", "v", "w"])
        town.drop("b")
        self.assertEqual(town.facts.words_known("b"), [])
        self.assertEqual(town.facts.words_known("a"), ["v"])
        town.add("b", [])
        self.assertEqual([town.known("b", word) for word in ["told", "v", "w"]], [None, None, None])
        teller.facts[("b", "w")] = 1
        self.assertEqual(town.look("b", "w"), ((), "b", 1))
        self.assertEqual(town.reads(), [("b", "v"), ("a", "v"), ("b", "w"), ("b", "w")])

    def test_a_refused_drop_forgets_nothing(self):
        town, teller = town_of({"a": [], "b": ["a"]})
        town.shift([], [("a", "w", 1)])
        self.check_refused(town, (Heired, "a", "b"), town.drop, "a")
        self.assertEqual(town.known("a", "w"), 1)


class Shifting(TownCase):
    def test_nothing(self):
        town, teller = town_of(eldersets.DIAMOND)
        town.look("d", "w")
        tags = [town.tag(name) for name in "abcd"]
        self.assertIsNone(town.may_shift([], []))
        self.assertEqual(town.shift([], []), [])
        self.assertEqual(town.deeds(), 5)
        self.assertEqual([town.tag(name) for name in "abcd"], tags)

    def test_turns_alone(self):
        town, teller = town_of(eldersets.DIAMOND)
        self.assertEqual(town.shift([("d", ["c", "b"])], []), ["d"])
        self.assertEqual(town.line("d"), ["d", "c", "b", "a"])
        # The line of d is the same behind this.
        self.assertEqual(town.shift([("c", [])], []), ["c"])
        self.assertEqual(town.elders_of("c"), [])
        self.assertEqual(town.shift([("b", [])], []), ["b", "d"])

    def test_turns_all_at_once(self):
        town, teller = town_of({"a": [], "b": ["a"], "c": ["b"]})
        self.assertEqual(town.shift([("a", ["b"]), ("b", [])], []), ["a", "b", "c"])
        self.assertEqual(town.line("a"), ["a", "b"])
        self.assertEqual(town.line("c"), ["c", "b"])

    def test_facts_told_and_doubted(self):
        town, teller = town_of({"a": [], "b": ["a"]}, {("a", "w"): 2})
        town.shift([], [("a", "w", 0), ("b", "w", 1), ("a", "v", 2)])
        self.assertEqual([town.known("a", "w"), town.known("b", "w"), town.known("a", "v")], [0, 1, 2])
        town.shift([], [("a", "w", None), ("b", "v", None), ("b", "w", 1)])
        self.assertEqual([town.known("a", "w"), town.known("b", "w"), town.known("b", "v")], [None, 1, None])
        self.assertEqual(teller.asked, [])
        self.assertEqual(town.look("a", "w"), ((), "a", 2))
        self.assertEqual(town.look("b", "w"), ((), "b", 1))
        self.assertEqual(teller.asked, [("a", "w")])

    def test_sixty_facts(self):
        town, teller = town_of({name: [] for name in "abcde"})
        facts = [(kind, word, 1) for kind in "abcde" for word in "klmnopqrstuv"]
        self.assertEqual(len(facts), 60)
        self.assertEqual(town.shift([], facts), [])
        self.assertTrue(all(town.known(kind, word) == 1 for kind, word, one in facts))
        self.assertEqual(town.shift([], [(kind, word, 2) for kind, word, one in facts]), ["a", "b", "c", "d", "e"])

    def test_may_shift_changes_nothing(self):
        town, teller = town_of(eldersets.DIAMOND)
        town.look("d", "w")
        before = state(town)
        self.assertIsNone(town.may_shift([("d", []), ("a", ["a"])], [("a", "w", 1), ("b", "w", None)]))
        self.assertEqual(state(town), before)

    def test_what_was_handed_in_changed_behind(self):
        town, teller = town_of(eldersets.DIAMOND)
        elders = ["c", "b"]
        turns, facts = [("d", elders)], [("a", "w", 1)]
        town.shift(turns, facts)
        elders.clear()
        turns.clear()
        facts[0] = ("a", "w", 2)
        self.assertEqual(town.line("d"), ["d", "c", "b", "a"])
        self.assertEqual(town.known("a", "w"), 1)

    def test_handed_in_stays_and_told_is_new(self):
        town, teller = town_of(eldersets.DIAMOND)
        turns, facts = [("d", ["c", "b"])], [("a", "w", 1), ("b", "w", None)]
        copies = deepcopy((turns, facts))
        told = town.shift(turns, facts)
        self.assertEqual((turns, facts), copies)
        told.clear()
        town.add("x", []).clear()
        town.drop("x").append("a")
        for call in [town.kinds, lambda: town.elders_of("d"), lambda: town.line("d"), lambda: town.heirs("a"), town.reads]:
            before = call()
            call().append("x")
            self.assertEqual(call(), before)
        self.assertEqual([town.tag(name) for name in "abcd"], [1, 2, 3, 5])


class ShiftingRefused(TownCase):
    def test_turns(self):
        town, teller = town_of(eldersets.TANGLE_FREE)
        wrong = [
            ((NoKind, "x"), [("x", ["no"] * 6)]), ((Twice, "a"), [("a", []), ("a", ["no"])]),
            ((TooMany, 5), [("a", ["no"] * 6)]), ((NoKind, "no"), [("a", ["b", "no", "b"])]),
            ((Twice, "b"), [("a", ["b", "b", "no"])]),
        ]
        for told, turns in wrong:
            self.check_shift_refused(town, told, turns, [])
            self.check_shift_refused(town, told, [("e", ["e"])] + turns, [("no", "W", 3)])

    def test_a_fact_of_no_kind(self):
        town, teller = town_of(eldersets.TANGLE_FREE)
        for kind in ["x", "", "A"]:
            self.check_shift_refused(town, (NoKind, kind), [], [(kind, "w", 1)])
            self.check_shift_refused(town, (NoKind, kind), [], [("a", "w", 1), (kind, "W", 3), ("a", "w", 1)])
            self.check_shift_refused(town, (NoKind, kind), [], [(kind, "w", 1), (kind, "w", 1)])

    def test_a_fact_of_no_name(self):
        town, teller = town_of({"a": []})
        before = state(town)
        for thing in no_names():
            for one in [1, None, 3, "x"]:
                for call in [town.shift, town.may_shift]:
                    told = refusal(call, [], [("a", "w", 1), ("a", thing, one), ("a", thing, one)])
                    self.assertIsInstance(told, NoName)
                    self.assertEqual(told.name, thing)
        self.assertEqual(state(town), before)

    def test_a_fact_of_no_strength(self):
        town, teller = town_of({"a": []})
        before = state(town)
        for thing in [thing for thing in no_strengths() if thing is not None]:
            for call in [town.shift, town.may_shift]:
                told = refusal(call, [], [("a", "v", 1), ("a", "w", thing), ("a", "w", 1)])
                self.assertIsInstance(told, NoStrength)
                self.assertEqual(told.value, thing)
                self.assertIs(type(told.value), type(thing))
                # What is no strength goes ahead of a fact that stands ahead.
                self.assertIsInstance(refusal(call, [], [("a", "w", 1), ("a", "w", thing)]), NoStrength)
        self.assertEqual(state(town), before)

    def test_a_fact_twice(self):
        town, teller = town_of({"a": [], "b": []})
        for first in [0, 1, None]:
            for second in [0, 1, None]:
                self.check_shift_refused(town, (Twice, "w"), [], [("a", "w", first), ("b", "w", 1), ("a", "w", second)])
        self.assertIsNone(town.may_shift([], [("a", "w", 1), ("b", "w", 1), ("a", "v", 1)]))

    def test_fact_by_fact(self):
        town, teller = town_of({"a": [], "b": []})
        wrong = [
            ((NoKind, "x"), ("x", "w", 1)), ((NoName, "W"), ("a", "W", 1)), ((NoStrength, 3), ("a", "v", 3)),
            ((Twice, "w"), ("a", "w", 2)),
        ]
        for order in permutations(wrong):
            self.check_shift_refused(town, order[0][0], [], [("a", "w", 1)] + [fact for told, fact in order])

    def test_turns_ahead_of_facts_ahead_of_loop_and_tangled(self):
        town, teller = town_of(eldersets.TANGLE_FREE)
        for turns in [[("a", ["a"])], [("e", ["c", "d"])]]:
            self.check_shift_refused(town, (NoKind, "x"), turns + [("x", [])], [("y", "w", 1)])
            self.check_shift_refused(town, (NoKind, "y"), turns, [("y", "w", 1)])
            self.check_shift_refused(town, (NoName, ""), turns, [("a", "", 1)])
            self.check_shift_refused(town, (NoStrength, True), turns, [("a", "w", True)])
            self.check_shift_refused(town, (Twice, "w"), turns, [("a", "w", 1), ("a", "w", 1)])

    def test_loop_ahead_of_tangled(self):
        town, teller = town_of({**eldersets.TANGLE_FREE, "f": []})
        before = state(town)
        facts = [("a", "w", 2)]
        for turns in [[("e", ["c", "d"]), ("f", ["f"])], [("f", ["f"]), ("e", ["c", "d"])]]:
            self.assertIsNone(town.may_shift(turns, facts))
            told = refusal(town.shift, turns, facts)
            self.assertIsInstance(told, Loop)
            self.assertEqual(told.ring, ["f"])
        self.assertEqual(state(town), before)

    def test_tangled(self):
        town, teller = town_of({**eldersets.TANGLE_FREE, "f": []})
        before = state(town)
        turns, facts = [("f", ["d", "c"]), ("e", ["c", "d"])], [("a", "w", 2)]
        self.assertIsNone(town.may_shift(turns, facts))
        told = refusal(town.shift, turns, facts)
        self.assertIsInstance(told, Tangled)
        self.assertEqual(told.name, "e")
        rows = eldersets.rows_in_words({**eldersets.TANGLE_FREE, **dict(turns)}, "e")
        self.assertIs(is_ring(rows, told.steps), True)
        self.assertEqual(state(town), before)


class Touched(TownCase):
    def setUp(self):
        # The line of d is d, b, c, a; that of x is x.
        self.town, self.teller = town_of({**eldersets.DIAMOND, "x": []})

    def test_by_lines(self):
        town = self.town
        self.assertEqual(town.shift([("b", ["a", "x"])], []), ["b", "d"])
        self.assertEqual(town.shift([("b", ["a", "x"])], []), [])
        self.assertEqual(town.shift([("d", ["b", "c"])], []), [])
        self.assertEqual([town.tag(name) for name in "abcdx"], [1, 6, 3, 6, 5])

    def test_elders_turned_but_the_line_the_same(self):
        town, teller = town_of({"a": [], "b": ["a"], "c": ["b"]})
        self.assertEqual(town.shift([("c", ["b", "a"])], []), [])
        self.assertEqual(town.elders_of("c"), ["b", "a"])
        self.assertEqual(town.tag("c"), 3)

    def test_what_becomes_known_touches_nothing(self):
        self.assertEqual(self.town.shift([], [("a", "w", 2), ("d", "w", 0), ("b", "v", 1)]), [])
        self.town.look("d", "u")
        self.assertEqual([self.town.tag(name) for name in "abcdx"], [1, 2, 3, 4, 5])

    def test_known_to_be_another(self):
        self.town.shift([], [("c", "w", 1)])
        self.assertEqual(self.town.shift([], [("c", "w", 2)]), ["c", "d"])
        self.assertEqual(self.town.shift([], [("c", "w", 0)]), ["c", "d"])
        self.assertEqual(self.town.shift([], [("c", "w", 1)]), ["c", "d"])

    def test_known_to_be_so(self):
        self.town.look("a", "w")
        for one in [0, 0]:
            self.assertEqual(self.town.shift([], [("a", "w", one)]), [])
        self.assertEqual(self.town.deeds(), 7)
        self.town.shift([], [("c", "w", 2)])
        self.assertEqual(self.town.shift([], [("c", "w", 2)]), [])
        self.assertEqual([self.town.tag(name) for name in "abcdx"], [1, 2, 3, 4, 5])

    def test_doubted(self):
        self.town.look("b", "w")
        self.assertEqual(self.town.reads(), [("b", "w"), ("a", "w")])
        self.assertEqual(self.town.shift([], [("b", "w", None)]), ["b", "d"])
        self.assertEqual(self.town.shift([], [("b", "w", None)]), [])
        self.assertEqual(self.town.shift([], [("a", "w", None)]), ["a", "b", "c", "d"])
        self.assertEqual(self.town.shift([], [("d", "v", None)]), [])

    def test_all_heirs_and_nobody_else(self):
        for kind, heirs in [("a", ["a", "b", "c", "d"]), ("b", ["b", "d"]), ("d", ["d"]), ("x", ["x"])]:
            self.setUp()
            self.town.shift([], [(kind, "w", 1)])
            tags = {name: self.town.tag(name) for name in "abcdx"}
            self.assertEqual(self.town.shift([], [(kind, "w", 0)]), heirs)
            expected = {name: 7 if name in heirs else tags[name] for name in "abcdx"}
            self.assertEqual({name: self.town.tag(name) for name in "abcdx"}, expected)

    def test_by_the_line_as_it_was_ahead(self):
        self.town.shift([], [("x", "w", 1), ("a", "w", 1)])
        # b comes to have x, and x another fact, at once: of d and b the lines become others anyway.
        self.assertEqual(self.town.shift([("c", ["x"])], [("x", "w", 2)]), ["c", "d", "x"])
        # c loses x at once with x's fact.
        self.assertEqual(self.town.shift([("c", [])], [("x", "w", 0)]), ["c", "d", "x"])
        self.assertEqual(self.town.shift([], [("x", "w", 1)]), ["x"])

    def test_in_the_order_of_the_kinds(self):
        town, teller = town_of({"m": []})
        town.add("z", ["m"], 0)
        town.add("a", ["z"], 2)
        town.add("k", ["m"], 1)
        self.assertEqual(town.kinds(), ["z", "k", "m", "a"])
        town.shift([], [("m", "w", 1)])
        self.assertEqual(town.shift([], [("m", "w", 2)]), ["z", "k", "m", "a"])
        self.assertEqual(town.shift([("a", []), ("z", [])], []), ["z", "a"])

    def test_added_and_dropped_touch_nobody_else(self):
        self.town.look("d", "w")
        self.assertEqual(self.town.add("y", ["d", "x"]), ["y"])
        self.assertEqual(self.town.drop("y"), [])
        self.assertEqual([self.town.tag(name) for name in "abcdx"], [1, 2, 3, 4, 5])


class Tags(TownCase):
    def test_the_number_of_the_last_deed_that_touched(self):
        town, teller = town_of({"a": [], "b": ["a"]})
        town.shift([], [])
        town.shift([], [("a", "w", 1)])
        self.assertEqual((town.tag("a"), town.tag("b"), town.deeds()), (1, 2, 4))
        town.shift([], [("b", "w", 0)])
        town.shift([], [("b", "w", 1)])
        self.assertEqual((town.tag("a"), town.tag("b"), town.deeds()), (1, 6, 6))
        town.shift([], [("a", "w", 2)])
        self.assertEqual((town.tag("a"), town.tag("b"), town.deeds()), (7, 7, 7))

    def test_a_refused_deed_has_no_number(self):
        town, teller = town_of({"a": []})
        for call, handed in [
            (town.add, ("a", [])), (town.drop, ("x",)), (town.shift, ([("x", [])], [])),
            (town.shift, ([], [("a", "w", 3)])), (town.shift, ([("a", ["a"])], [])),
        ]:
            self.assertIsNotNone(refused(call, *handed))
            self.assertEqual((town.deeds(), town.tag("a")), (1, 1))
        town.add("b", [])
        self.assertEqual((town.deeds(), town.tag("b")), (2, 2))

    def test_dropped_and_added_again(self):
        town, teller = town_of({"a": [], "b": ["a"]})
        town.drop("b")
        self.assertEqual(refused(town.tag, "b"), (NoKind, "b"))
        town.add("b", ["a"])
        self.assertEqual((town.tag("a"), town.tag("b")), (1, 4))

    def test_of_what_is_no_kind(self):
        town, teller = town_of({"a": []})
        for call in [town.tag, town.elders_of, town.line, town.heirs]:
            for name in ["x", "", "A"]:
                self.check_refused(town, (NoKind, name), call, name)

    def test_reading_changes_no_tag_and_is_no_deed(self):
        town, teller = town_of(eldersets.DIAMOND, {("a", "w"): 1})
        before = (town.deeds(), [town.tag(name) for name in "abcd"])
        town.look("d", "w")
        town.look("d", "w", "b")
        town.known("a", "w")
        self.assertEqual((town.deeds(), [town.tag(name) for name in "abcd"]), before)


if __name__ == "__main__":
    unittest.main()
