import unittest
from itertools import permutations

from taglook.errors import NoKind, NoName, NoOwn, NoThing, TooMany, Twice
from taglook.shapes import Shapes
from taglook.things import Things

from tests import eldersets, towns
from tests.refused import no_names, refusal, refused

MANY = ["t" + one + other for one in "abcdefgh" for other in "vwxyz"]
TWELVE = list("abcdefghijkl")


def state(things):
    """All that things tell."""
    names = things.names()
    told = [(things.kind_of(name), things.shape_of(name), list(things.own(name).items())) for name in names]
    slots = [[things.value_at(name, slot) for slot in range(len(things.own(name)))] for name in names]
    return (names, told, slots, things.shapes.many(), towns.state(things.town))


class ThingsCase(unittest.TestCase):
    def setUp(self):
        self.town, self.teller = towns.town_of(eldersets.DIAMOND)
        self.things = Things(self.town)

    def check_refused(self, told, call, *handed):
        before = state(self.things)
        self.assertEqual(refused(call, *handed), told)
        self.assertEqual(state(self.things), before)

    def check_no_name(self, call, place, *handed):
        """Whatever is no name is refused at that place of what is handed in."""
        before = state(self.things)
        for thing in no_names():
            told = refusal(call, *handed[:place], thing, *handed[place:])
            self.assertIsInstance(told, NoName)
            self.assertEqual(told.name, thing)
            self.assertIs(type(told.name), type(thing))
        self.assertEqual(state(self.things), before)

    def made(self, name, kind, words):
        self.things.make(name, kind)
        for value, word in enumerate(words):
            self.things.put(name, word, value)


class Making(ThingsCase):
    def test_at_first(self):
        self.assertEqual(self.things.names(), [])
        self.assertIs(self.things.town, self.town)
        self.assertIsInstance(self.things.shapes, Shapes)
        self.assertEqual(self.things.shapes.many(), 1)

    def test_made(self):
        self.assertIsNone(self.things.make("t", "d"))
        self.assertEqual(self.things.names(), ["t"])
        self.assertEqual((self.things.kind_of("t"), self.things.shape_of("t"), self.things.own("t")), ("d", 0, {}))

    def test_in_the_order_in_which_they_were_made(self):
        for name in ["z", "a", "m"]:
            self.things.make(name, "a")
        self.things.put("m", "w", 1)
        self.things.move("z", "b")
        self.assertEqual(self.things.names(), ["z", "a", "m"])

    def test_a_name_made_again_comes_last(self):
        for name in ["z", "a", "m"]:
            self.made(name, "a", "w")
        self.things.drop("z")
        self.assertEqual(self.things.names(), ["a", "m"])
        self.things.make("z", "b")
        self.assertEqual(self.things.names(), ["a", "m", "z"])
        self.assertEqual((self.things.kind_of("z"), self.things.own("z"), self.things.shape_of("z")), ("b", {}, 0))

    def test_a_name_of_a_kind_or_of_a_word_may_be_a_things(self):
        self.made("a", "a", ["a"])
        self.assertEqual(self.things.own("a"), {"a": 0})

    def test_forty_may_be(self):
        for name in MANY:
            self.things.make(name, "a")
        self.assertEqual(self.things.names(), MANY)
        self.check_refused((TooMany, 40), self.things.make, "more", "a")
        self.things.drop(MANY[3])
        self.things.make("more", "a")
        self.check_refused((TooMany, 40), self.things.make, MANY[3], "a")

    def test_refusals(self):
        self.things.make("t", "a")
        self.check_no_name(self.things.make, 0, "no")
        self.check_refused((Twice, "t"), self.things.make, "t", "a")
        self.check_refused((Twice, "t"), self.things.make, "t", "no")
        for kind in ["no", "", "A", "t"]:
            self.check_refused((NoKind, kind), self.things.make, "s", kind)

    def test_refusals_in_their_order(self):
        for name in MANY:
            self.things.make(name, "a")
        self.check_no_name(self.things.make, 0, "no")
        self.check_refused((Twice, MANY[0]), self.things.make, MANY[0], "no")
        self.check_refused((TooMany, 40), self.things.make, "more", "no")

    def test_a_kind_of_the_town_now(self):
        self.town.add("x", [])
        self.things.make("t", "x")
        self.town.drop("x")
        self.check_refused((NoKind, "x"), self.things.make, "s", "x")

    def test_things_apart(self):
        other = Things(self.town)
        self.made("t", "a", "vw")
        self.assertEqual((other.names(), other.shapes.many()), ([], 1))


class Putting(ThingsCase):
    def test_words_one_behind_another(self):
        self.things.make("t", "a")
        self.assertIsNone(self.things.put("t", "w", 5))
        self.things.put("t", "a", -7)
        self.things.put("t", "m", 0)
        self.assertEqual(list(self.things.own("t").items()), [("w", 5), ("a", -7), ("m", 0)])
        self.assertEqual([self.things.value_at("t", slot) for slot in range(3)], [5, -7, 0])

    def test_a_word_put_again_keeps_its_slot(self):
        self.made("t", "a", "wam")
        shape, many = self.things.shape_of("t"), self.things.shapes.many()
        self.things.put("t", "a", 9)
        self.assertEqual(list(self.things.own("t").items()), [("w", 0), ("a", 9), ("m", 2)])
        self.assertEqual((self.things.shape_of("t"), self.things.shapes.many()), (shape, many))

    def test_values_of_sixty_figures(self):
        self.things.make("t", "a")
        for value in [10**60 - 1, -(10**60 - 1), 0]:
            self.things.put("t", "w", value)
            self.assertEqual(self.things.value_at("t", 0), value)

    def test_of_one_thing_alone(self):
        self.made("t", "a", "vw")
        self.made("s", "a", "vw")
        self.things.put("t", "v", 8)
        self.things.put("s", "x", 9)
        self.assertEqual((self.things.own("t"), self.things.own("s")), ({"v": 8, "w": 1}, {"v": 0, "w": 1, "x": 9}))

    def test_refusals(self):
        self.made("t", "a", TWELVE)
        self.check_refused((NoThing, "s"), self.things.put, "s", "w", 1)
        self.check_refused((NoThing, "s"), self.things.put, "s", "W", 1)
        self.check_refused((NoThing, ""), self.things.put, "", "W", 1)
        self.check_no_name(self.things.put, 1, "t", 1)
        self.check_refused((TooMany, 12), self.things.put, "t", "w", 1)

    def test_a_twelfth_word_and_known_ones_beside_it(self):
        self.made("t", "a", TWELVE)
        self.things.put("t", "l", 77)
        self.things.put("t", "a", 78)
        self.assertEqual(len(self.things.own("t")), 12)
        self.things.take("t", "c")
        self.things.put("t", "w", 79)
        self.assertEqual(list(self.things.own("t")), list("abdefghijklw"))
        self.check_refused((TooMany, 12), self.things.put, "t", "c", 1)


class Taking(ThingsCase):
    def test_words_behind_a_taken_one(self):
        self.made("t", "a", "wamk")
        self.assertIsNone(self.things.take("t", "a"))
        self.assertEqual(list(self.things.own("t").items()), [("w", 0), ("m", 2), ("k", 3)])
        self.assertEqual([self.things.value_at("t", slot) for slot in range(3)], [0, 2, 3])
        self.things.take("t", "w")
        self.things.take("t", "k")
        self.things.take("t", "m")
        self.assertEqual((self.things.own("t"), self.things.shape_of("t")), ({}, 0))

    def test_taken_and_put_again_comes_last(self):
        self.made("t", "a", "wam")
        self.things.take("t", "w")
        self.things.put("t", "w", 6)
        self.assertEqual(list(self.things.own("t").items()), [("a", 1), ("m", 2), ("w", 6)])

    def test_refusals(self):
        self.made("t", "a", "w")
        self.check_refused((NoThing, "s"), self.things.take, "s", "w")
        self.check_refused((NoThing, "s"), self.things.take, "s", "no")
        for word in ["no", "", "W", "ww"]:
            self.check_refused((NoOwn, word), self.things.take, "t", word)
        self.things.take("t", "w")
        self.check_refused((NoOwn, "w"), self.things.take, "t", "w")


class MovingAndDropping(ThingsCase):
    def test_moved_and_own_words_stay(self):
        self.made("t", "a", "wam")
        shape = self.things.shape_of("t")
        self.assertIsNone(self.things.move("t", "d"))
        self.assertEqual((self.things.kind_of("t"), self.things.shape_of("t")), ("d", shape))
        self.assertEqual(self.things.own("t"), {"w": 0, "a": 1, "m": 2})
        self.things.move("t", "d")
        self.assertEqual(self.things.kind_of("t"), "d")

    def test_moving_refused(self):
        self.made("t", "a", "w")
        self.check_refused((NoThing, "s"), self.things.move, "s", "a")
        self.check_refused((NoThing, "s"), self.things.move, "s", "no")
        for kind in ["no", "", "A"]:
            self.check_refused((NoKind, kind), self.things.move, "t", kind)

    def test_a_kind_that_went(self):
        self.town.add("x", ["d"])
        self.made("t", "x", "w")
        self.town.drop("x")
        self.assertEqual((self.things.kind_of("t"), self.things.own("t")), ("x", {"w": 0}))
        self.check_refused((NoKind, "x"), self.things.move, "t", "x")
        self.things.put("t", "v", 1)
        self.things.take("t", "w")
        self.assertEqual((self.things.own("t"), self.things.value_at("t", 0)), ({"v": 1}, 1))
        self.things.move("t", "a")
        self.assertEqual(self.things.kind_of("t"), "a")
        self.town.add("x", [])
        self.things.move("t", "x")
        self.town.drop("x")
        self.things.drop("t")
        self.assertEqual(self.things.names(), [])

    def test_dropped(self):
        self.made("t", "a", "w")
        self.made("s", "a", "w")
        self.assertIsNone(self.things.drop("t"))
        self.assertEqual(self.things.names(), ["s"])
        self.check_refused((NoThing, "t"), self.things.drop, "t")
        self.check_refused((NoThing, "no"), self.things.drop, "no")


class Told(ThingsCase):
    def test_refused_where_there_is_no_such_thing(self):
        self.made("t", "a", "w")
        self.things.make("s", "a")
        self.things.drop("s")
        for name in ["s", "no", "", "T"]:
            for call in [self.things.kind_of, self.things.shape_of, self.things.own]:
                self.check_refused((NoThing, name), call, name)
            self.check_refused((NoThing, name), self.things.value_at, name, 0)

    def test_one_shape_just_where_rows_are_alike(self):
        rows = [list(row) for length in range(4) for row in permutations("abc", length)]
        for place, row in enumerate(rows):
            self.made(MANY[place], "abcd"[place % 4], row)
        self.made("twin", "a", "abc")
        shapes = [self.things.shape_of(MANY[place]) for place in range(len(rows))]
        self.assertEqual(len(set(shapes)), len(rows))
        self.assertEqual(self.things.shape_of("twin"), self.things.shape_of(MANY[rows.index(["a", "b", "c"])]))
        for place, row in enumerate(rows):
            self.assertEqual(self.things.shapes.words_of(shapes[place]), row)

    def test_whatever_came_and_went(self):
        self.made("t", "a", "xaybz")
        for word in "xyz":
            self.things.take("t", word)
        self.made("s", "b", "ab")
        self.assertEqual(self.things.shape_of("t"), self.things.shape_of("s"))
        self.things.take("t", "a")
        self.things.put("t", "a", 5)
        self.assertNotEqual(self.things.shape_of("t"), self.things.shape_of("s"))

    def test_a_row_comes_when_a_thing_comes_to_have_it(self):
        shapes = self.things.shapes
        self.things.make("t", "a")
        self.assertEqual(shapes.many(), 1)
        self.things.put("t", "v", 1)
        self.things.put("t", "w", 1)
        self.assertEqual((shapes.many(), shapes.words_of(1), shapes.words_of(2)), (3, ["v"], ["v", "w"]))
        self.things.take("t", "v")
        self.assertEqual((shapes.many(), shapes.words_of(3)), (4, ["w"]))
        self.assertEqual(self.things.shape_of("t"), 3)

    def test_asking_gives_no_number_and_the_town_stays(self):
        self.made("t", "d", "vw")
        before = state(self.things)
        self.things.names()
        self.things.own("t")
        self.things.shape_of("t")
        self.things.kind_of("t")
        self.things.value_at("t", 1)
        self.assertEqual(state(self.things), before)
        self.assertEqual(self.teller.asked, [])
        self.assertEqual(self.town.deeds(), 4)

    def test_a_refused_put_gives_no_number(self):
        self.made("t", "a", TWELVE)
        many = self.things.shapes.many()
        self.assertIsNotNone(refused(self.things.put, "t", "w", 1))
        self.assertIsNotNone(refused(self.things.take, "t", "w"))
        self.assertIsNotNone(refused(self.things.put, "t", "W", 1))
        self.assertEqual(self.things.shapes.many(), many)

    def test_told_lists_and_dicts_changed_behind(self):
        self.made("t", "a", "vw")
        before = state(self.things)
        self.things.names().clear()
        own = self.things.own("t")
        own["v"] = 9
        own.pop("w")
        self.assertEqual(state(self.things), before)


if __name__ == "__main__":
    unittest.main()
