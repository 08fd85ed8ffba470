import unittest
from copy import deepcopy

from taglook.errors import Heired, NoKind, NoName, Tangled, TooMany, Twice
from taglook.house import House
from taglook.merging import is_ring

from tests import eldersets
from tests.houses import elders_in, house_of, state
from tests.refused import no_names, refusal, refused

TWELVE = {name: [] for name in "abcdefghijkl"}
# Eleven kinds, of which e and f would be tangled by c and d.
ELEVEN = {**eldersets.KNOT, **{name: [] for name in "opqrstu"}}


class HouseCase(unittest.TestCase):
    def check_refused(self, house, told, call, *handed):
        before = state(house)
        self.assertEqual(refused(call, *handed), told)
        self.assertEqual(state(house), before)

    def check_tangled(self, house, name, elders):
        before = state(house)
        told = refusal(house.add, name, elders)
        self.assertIsInstance(told, Tangled)
        self.assertEqual(told.name, name)
        rows = [house.line(elder) for elder in elders] + [elders]
        self.assertIs(is_ring(rows, told.steps), True)
        self.assertEqual(state(house), before)


class Adding(HouseCase):
    def test_at_first_no_kinds(self):
        self.assertEqual(House().kinds(), [])

    def test_tells_none(self):
        house = House()
        self.assertIsNone(house.add("a", []))
        self.assertIsNone(house.add("b", ["a"], 0))
        self.assertIsNone(house.drop("b"))

    def test_behind_them_all(self):
        house = House()
        house.add("c", [])
        house.add("a", [], None)
        house.add("b", [], at=None)
        house.add("d", ["a"], at=3)
        house.add("e", ["a"], 4)
        self.assertEqual(house.kinds(), ["c", "a", "b", "d", "e"])

    def test_at_each_place(self):
        for place in range(5):
            for by_keyword in [False, True]:
                house = house_of({"a": [], "b": [], "c": [], "d": []})
                if by_keyword:
                    house.add("x", ["b"], at=place)
                else:
                    house.add("x", ["b"], place)
                expected = ["a", "b", "c", "d"]
                expected.insert(place, "x")
                self.assertEqual(house.kinds(), expected)
                self.assertEqual(house.line("x"), ["x", "b"])

    def test_all_by_keyword(self):
        house = house_of({"a": []})
        house.add(elders=["a"], at=0, name="b")
        self.assertEqual(elders_in(house), {"b": ["a"], "a": []})

    def test_names_of_one_to_eight_letters(self):
        house = House()
        for name in ["z", "abcdefgh"]:
            house.add(name, [])
        self.assertEqual(house.kinds(), ["z", "abcdefgh"])

    def test_twelve_kinds_and_five_elders_may_be(self):
        house = house_of(TWELVE)
        self.assertEqual(len(house.kinds()), 12)
        house.drop("l")
        house.add("l", ["a", "b", "c", "d", "e"])
        self.assertEqual(house.line("l"), ["l", "a", "b", "c", "d", "e"])

    def test_other_kinds_and_their_order_stay(self):
        house = house_of(eldersets.DIAMOND)
        house.add("x", ["d", "a"], 1)
        self.assertEqual(house.kinds(), ["a", "x", "b", "c", "d"])
        for name, others in eldersets.DIAMOND.items():
            self.assertEqual(house.elders_of(name), others)


class AddingRefused(HouseCase):
    def test_what_is_no_name(self):
        for thing in no_names():
            house = house_of({"a": []})
            told = refusal(house.add, thing, [])
            self.assertIsInstance(told, NoName)
            self.assertEqual(told.name, thing)
            self.assertIs(type(told.name), type(thing))
            self.assertEqual(house.kinds(), ["a"])

    def test_no_name_ahead_of_all(self):
        house = house_of(TWELVE)
        for elders in [["x"], ["a", "a"], list("abcdef"), []]:
            self.check_refused(house, (NoName, "A"), house.add, "A", elders)
            self.check_refused(house, (NoName, "A"), house.add, "A", elders, 0)

    def test_a_kind_that_is_there(self):
        house = house_of(TWELVE)
        for elders in [["x"], ["a", "a"], list("abcdef"), [], ["b"]]:
            self.check_refused(house, (Twice, "b"), house.add, "b", elders)
        small = house_of({"a": []})
        self.check_refused(small, (Twice, "a"), small.add, "a", ["a"])

    def test_a_thirteenth_kind(self):
        house = house_of(TWELVE)
        for elders in [["x"], ["a", "a"], list("abcdef"), []]:
            self.check_refused(house, (TooMany, 12), house.add, "x", elders)
            self.check_refused(house, (TooMany, 12), house.add, "x", elders, 3)
        knotted = house_of({**ELEVEN, "v": []})
        self.check_refused(knotted, (TooMany, 12), knotted.add, "x", ["c", "d"])

    def test_six_elders(self):
        house = house_of(ELEVEN)
        self.check_refused(house, (TooMany, 5), house.add, "x", ["a", "b", "o", "p", "q", "r"])
        self.check_refused(house, (TooMany, 5), house.add, "x", ["no", "b", "o", "p", "q", "r"])
        self.check_refused(house, (TooMany, 5), house.add, "x", ["a", "a", "a", "a", "a", "a"])
        self.check_refused(house, (TooMany, 5), house.add, "x", ["x"] * 7)
        self.check_refused(house, (TooMany, 5), house.add, "x", ["c", "d", "o", "p", "q", "r"])

    def test_an_elder_that_is_no_kind(self):
        house = house_of(ELEVEN)
        for place in range(4):
            elders = ["c", "d", "o"]
            elders.insert(place, "no")
            self.check_refused(house, (NoKind, "no"), house.add, "x", elders)
        self.check_refused(house, (NoKind, "no"), house.add, "x", ["no", "nor"])
        self.check_refused(house, (NoKind, "NO"), house.add, "x", ["NO"])
        self.check_refused(house, (NoKind, ""), house.add, "x", [""])

    def test_the_kind_itself_as_an_elder(self):
        house = house_of(ELEVEN)
        self.check_refused(house, (NoKind, "x"), house.add, "x", ["x"])
        self.check_refused(house, (NoKind, "x"), house.add, "x", ["a", "x"])
        self.check_refused(house, (NoKind, "x"), house.add, "x", ["x", "x"])

    def test_an_elder_twice(self):
        house = house_of(ELEVEN)
        for elders in [["a", "a"], ["a", "b", "a"], ["b", "a", "a"], ["c", "d", "a", "a"]]:
            self.check_refused(house, (Twice, "a"), house.add, "x", elders)

    def test_elders_one_after_another(self):
        house = house_of(ELEVEN)
        self.check_refused(house, (Twice, "a"), house.add, "x", ["a", "a", "no"])
        self.check_refused(house, (NoKind, "no"), house.add, "x", ["a", "no", "a"])
        self.check_refused(house, (NoKind, "no"), house.add, "x", ["no", "no"])
        self.check_refused(house, (Twice, "b"), house.add, "x", ["a", "b", "b", "a"])

    def test_rows_that_cannot_be_merged(self):
        house = house_of(ELEVEN)
        self.check_tangled(house, "x", ["c", "d"])
        self.check_tangled(house, "x", ["a", "c"])
        self.check_tangled(house, "x", ["o", "d", "p", "c", "q"])

    def test_added_behind_a_refusal(self):
        house = house_of(eldersets.KNOT)
        self.check_tangled(house, "x", ["c", "d"])
        house.add("x", ["c"], 0)
        self.assertEqual(house.line("x"), ["x", "c", "a", "b"])


class Dropping(HouseCase):
    def test_dropped(self):
        house = house_of(eldersets.DIAMOND)
        house.drop("d")
        self.assertEqual(house.kinds(), ["a", "b", "c"])
        self.assertEqual(house.heirs("a"), ["a", "b", "c"])
        house.drop("b")
        self.assertEqual(elders_in(house), {"a": [], "c": ["a"]})

    def test_from_the_middle_and_added_again(self):
        house = house_of({"a": [], "b": [], "c": []})
        house.drop("b")
        self.assertEqual(house.kinds(), ["a", "c"])
        house.add("b", ["a"])
        self.assertEqual(house.kinds(), ["a", "c", "b"])
        self.assertEqual(house.line("b"), ["b", "a"])

    def test_what_is_no_kind(self):
        house = house_of(eldersets.DIAMOND)
        for name in ["x", "", "A", "a ", "abcdefghi"]:
            self.check_refused(house, (NoKind, name), house.drop, name)
        house.drop("d")
        self.check_refused(house, (NoKind, "d"), house.drop, "d")
        self.check_refused(House(), (NoKind, "a"), House().drop, "a")

    def test_an_elder_of_others(self):
        house = house_of(eldersets.DIAMOND)
        self.check_refused(house, (Heired, "a", "b"), house.drop, "a")
        self.check_refused(house, (Heired, "b", "d"), house.drop, "b")
        house.drop("d")
        house.drop("b")
        self.check_refused(house, (Heired, "a", "c"), house.drop, "a")

    def test_the_first_heir_in_the_order_of_the_kinds(self):
        house = house_of({"a": [], "z": ["a"], "b": ["a"]})
        self.check_refused(house, (Heired, "a", "z"), house.drop, "a")
        house.add("m", ["z", "a"], 0)
        self.check_refused(house, (Heired, "a", "m"), house.drop, "a")

    def test_the_heir_has_it_as_its_own_elder(self):
        # The first kind has a in its line only, the second one as its elder.
        house = house_of({"a": [], "b": ["a"]})
        house.add("x", ["b"], 0)
        self.assertEqual(house.heirs("a"), ["x", "a", "b"])
        self.check_refused(house, (Heired, "a", "b"), house.drop, "a")

    def test_a_place_for_a_thirteenth_comes_by_dropping(self):
        house = house_of(TWELVE)
        house.drop("c")
        house.add("x", [])
        self.assertEqual(house.kinds(), list("abdefghijklx"))
        self.check_refused(house, (TooMany, 12), house.add, "c", [])


class Told(HouseCase):
    def test_all_of_a_diamond(self):
        house = house_of(eldersets.DIAMOND)
        self.assertEqual(house.kinds(), ["a", "b", "c", "d"])
        self.assertEqual([house.elders_of(name) for name in "abcd"], [[], ["a"], ["a"], ["b", "c"]])
        self.assertEqual([house.line(name) for name in "abcd"], [["a"], ["b", "a"], ["c", "a"], ["d", "b", "c", "a"]])
        self.assertEqual(house.rows_of("a"), [[]])
        self.assertEqual(house.rows_of("b"), [["a"], ["a"]])
        self.assertEqual(house.rows_of("d"), [["b", "a"], ["c", "a"], ["b", "c"]])
        self.assertEqual([house.heirs(name) for name in "abcd"], [["a", "b", "c", "d"], ["b", "d"], ["c", "d"], ["d"]])

    def test_heirs_in_the_order_of_the_kinds(self):
        house = house_of({"m": [], "z": ["m"]})
        house.add("a", ["z"], 0)
        house.add("k", ["m"], 1)
        self.assertEqual(house.heirs("m"), ["a", "k", "m", "z"])
        self.assertEqual(house.heirs("z"), ["a", "z"])
        house.drop("a")
        self.assertEqual(house.heirs("m"), ["k", "m", "z"])

    def test_refused_where_it_is_no_kind(self):
        house = house_of(eldersets.DIAMOND)
        for call in [house.elders_of, house.line, house.rows_of, house.heirs]:
            for name in ["x", "", "A", "dd"]:
                self.check_refused(house, (NoKind, name), call, name)
        house.drop("d")
        for call in [house.elders_of, house.line, house.rows_of, house.heirs]:
            self.check_refused(house, (NoKind, "d"), call, "d")

    def test_behind_deeds_of_all_sorts_as_the_rule_says(self):
        house = house_of({"a": [], "b": ["a"], "c": ["a"], "d": ["b", "c"], "e": ["d", "a"]})
        self.check_by_rule(house)
        house.turn_all([("d", ["c", "b"]), ("c", [])])
        self.check_by_rule(house)
        house.drop("e")
        house.add("f", ["c", "d"][::-1], 2)
        self.check_by_rule(house)
        house.turn_all([("a", ["f"]), ("b", []), ("f", []), ("d", ["a", "b"])])
        self.check_by_rule(house)

    def check_by_rule(self, house):
        elders = elders_in(house)
        for name in elders:
            self.assertEqual(house.line(name), eldersets.line_in_words(elders, name))
            self.assertEqual(house.rows_of(name), eldersets.rows_in_words(elders, name))
            heirs = [kind for kind in elders if kind == name or name in eldersets.reached(elders, kind)]
            self.assertEqual(house.heirs(name), heirs)


class Apart(HouseCase):
    def test_lists_handed_in_changed_behind(self):
        house = house_of({"a": [], "b": []})
        elders = ["a", "b"]
        house.add("c", elders)
        elders.reverse()
        elders.append("c")
        self.assertEqual(house.elders_of("c"), ["a", "b"])
        self.assertEqual(house.line("c"), ["c", "a", "b"])

    def test_lists_handed_in_stay(self):
        house = house_of(eldersets.KNOT)
        for elders in [["c", "d"], ["a", "b"], ["a", "a"], ["no"]]:
            handed = list(elders)
            refused(house.add, "x", handed)
            self.assertEqual(handed, elders)

    def test_told_lists_changed_behind(self):
        house = house_of(eldersets.DIAMOND)
        before = deepcopy(state(house))
        house.kinds().clear()
        for name in "abcd":
            house.elders_of(name).append("x")
            house.line(name).reverse()
            house.heirs(name).clear()
            for row in house.rows_of(name):
                row.append("x")
            house.rows_of(name).pop()
        self.assertEqual(state(house), before)

    def test_rows_share_nothing_with_one_another(self):
        house = house_of({"a": [], "b": ["a"]})
        rows = house.rows_of("b")
        rows[0].append("x")
        self.assertEqual(rows, [["a", "x"], ["a"]])

    def test_two_houses(self):
        first, second = House(), House()
        first.add("a", [])
        self.assertEqual(second.kinds(), [])


class Copies(HouseCase):
    def test_a_copy_tells_the_same(self):
        house = house_of(eldersets.DIAMOND)
        house.add("x", ["c"], 1)
        twin = house.copied()
        self.assertIsInstance(twin, House)
        self.assertIsNot(twin, house)
        self.assertEqual(state(twin), state(house))
        self.assertEqual(state(House().copied()), state(House()))

    def test_what_is_done_to_the_one_stays_with_it(self):
        for first_is_changed in [True, False]:
            house = house_of(eldersets.DIAMOND)
            twin = house.copied()
            before = deepcopy(state(house))
            changed, other = (house, twin) if first_is_changed else (twin, house)
            changed.add("x", ["d"], 0)
            self.assertEqual(state(other), before)
            changed.turn_all([("b", []), ("d", ["c", "b"])])
            self.assertEqual(state(other), before)
            changed.drop("x")
            changed.drop("d")
            self.assertEqual(state(other), before)
            self.assertEqual(changed.kinds(), ["a", "b", "c"])

    def test_copies_of_copies(self):
        house = house_of(eldersets.DIAMOND)
        twin = house.copied()
        third = twin.copied()
        twin.drop("d")
        self.assertEqual(state(third), state(house))
        third.drop("d")
        self.assertEqual(house.kinds(), ["a", "b", "c", "d"])


if __name__ == "__main__":
    unittest.main()
