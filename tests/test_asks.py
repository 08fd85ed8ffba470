import unittest

from taglook.asks import ThingSite, value_of
from taglook.errors import NoKind, NoName, NoRoom, NoThing
from taglook.things import Things

from tests import eldersets, towns
from tests.refused import no_names, no_rooms, refusal, refused

PAPER = (("d", "b"), "c", 1)


class AsksCase(unittest.TestCase):
    def setUp(self):
        # The line of d is d, b, c, a.
        self.town, self.teller = towns.town_of({**eldersets.DIAMOND, "x": []}, {("c", "w"): 1, ("a", "w"): 2})
        self.things = Things(self.town)
        self.site = ThingSite(self.things, "w")

    def made(self, name, kind, words=""):
        self.things.make(name, kind)
        for value, word in enumerate(words):
            self.things.put(name, word, 10 + value)

    def check(self, name, answer, way, reads=""):
        before = len(self.town.reads())
        told = self.site.ask(name)
        self.assertEqual(told, (answer, way))
        self.assertIs(type(told), tuple)
        self.assertEqual([kind for kind, word in self.town.reads()[before:]], list(reads))
        kept = self.site.kept()[-1]
        kind = self.things.kind_of(name)
        self.assertEqual(kept[:2], ((kind, self.things.shape_of(name)), answer))
        self.assertEqual(kept[2:], (self.town.look(kind, "w"), self.town.tag(kind)))


class Made(AsksCase):
    def test_values(self):
        self.assertIs(self.site.things, self.things)
        self.assertEqual((self.site.word, self.site.room, self.site.kept()), ("w", 4, []))
        site = ThingSite(room=8, word="v", things=self.things)
        self.assertEqual((site.word, site.room), ("v", 8))
        for room in range(1, 9):
            self.assertEqual(ThingSite(self.things, "w", room).room, room)

    def test_a_word_that_is_no_name(self):
        for thing in no_names():
            for room in [4, 0, True]:
                told = refusal(ThingSite, self.things, thing, room)
                self.assertIsInstance(told, NoName)
                self.assertEqual(told.name, thing)

    def test_a_room_that_is_none(self):
        for thing in no_rooms():
            told = refusal(ThingSite, self.things, "w", thing)
            self.assertIsInstance(told, NoRoom)
            self.assertEqual(told.value, thing)
            self.assertIs(type(told.value), type(thing))


class Answers(AsksCase):
    def test_soft_kinds_behind_own_words(self):
        self.made("t", "d", "vw")
        self.made("s", "d", "v")
        self.check("t", ("own", 1), "anew", "dbc")
        self.check("s", ("kind", PAPER), "anew")

    def test_firm_kinds_ahead_of_own_words(self):
        self.made("t", "b", "w")
        self.made("s", "b")
        self.check("t", ("kind", (("b",), "a", 2)), "anew", "ba")
        self.check("s", ("kind", (("b",), "a", 2)), "anew")

    def test_nobody_has_it(self):
        self.made("t", "x", "uvw")
        self.made("s", "x", "uv")
        self.check("t", ("own", 2), "anew", "x")
        self.check("s", ("kind", (("x",), None, 0)), "anew")

    def test_the_example_of_the_document(self):
        town, teller = towns.town_of({"b": [], "a": ["b"]}, {("a", "w"): 1, ("b", "w"): 2})
        things = Things(town)
        things.make("t", "a")
        things.put("t", "w", 5)
        self.assertEqual(ThingSite(things, "w").ask("t"), (("own", 0), "anew"))
        self.assertEqual(town.reads(), [("a", "w")])

    def test_other_words_of_things_do_not_count(self):
        self.made("t", "d", "v")
        self.check("t", ("kind", PAPER), "anew", "dbc")

    def test_each_strength_with_and_without_the_own_word(self):
        for one in [0, 1, 2]:
            town, teller = towns.town_of({"a": []}, {("a", "w"): one})
            paper = town.look("a", "w")
            things = Things(town)
            things.make("has", "a")
            things.put("has", "w", 3)
            things.make("lacks", "a")
            site = ThingSite(things, "w")
            self.assertEqual(site.ask("has")[0], ("own", 0) if one < 2 else ("kind", paper))
            self.assertEqual(site.ask("lacks")[0], ("kind", paper))


class Values(AsksCase):
    def test_of_own_words(self):
        self.made("t", "d", "uvw")
        self.things.put("t", "w", -(10**60 - 1))
        self.assertEqual(value_of(self.things, "t", self.site.ask("t")[0]), -(10**60 - 1))
        self.assertEqual(value_of(self.things, "t", ("own", 0)), 10)
        self.things.put("t", "u", 0)
        self.assertEqual(value_of(self.things, "t", ("own", 0)), 0)

    def test_of_kinds(self):
        self.made("t", "d")
        self.made("s", "x")
        self.assertEqual(value_of(self.things, "t", self.site.ask("t")[0]), "c")
        self.assertIsNone(value_of(self.things, "s", self.site.ask("s")[0]))

    def test_of_another_thing_of_the_same_kind_and_shape(self):
        self.made("t", "d", "w")
        self.made("s", "d", "w")
        self.things.put("s", "w", 77)
        self.assertEqual(value_of(self.things, "t", self.site.ask("t")[0]), 10)
        self.assertEqual(value_of(self.things, "s", self.site.ask("s")[0]), 77)

    def test_a_value_reads_and_changes_nothing(self):
        self.made("t", "d", "w")
        answer = self.site.ask("t")[0]
        before, kept = towns.state(self.town), self.site.kept()
        value_of(self.things, "t", answer)
        value_of(self.things, "t", ("kind", PAPER))
        self.assertEqual((towns.state(self.town), self.site.kept()), (before, kept))


class Ways(AsksCase):
    def test_same(self):
        self.made("t", "d", "w")
        self.check("t", ("own", 0), "anew", "dbc")
        self.check("t", ("own", 0), "same")

    def test_same_for_another_thing_of_the_same_kind_and_shape(self):
        self.made("t", "d", "vw")
        self.made("s", "d", "vw")
        self.check("t", ("own", 1), "anew", "dbc")
        self.check("s", ("own", 1), "same")
        self.assertEqual(len(self.site.kept()), 1)
        self.things.drop("t")
        self.made("new", "d", "vw")
        self.check("new", ("own", 1), "same")

    def test_another_kind_or_shape_is_anew(self):
        self.made("t", "d", "vw")
        self.made("s", "d", "wv")
        self.made("r", "b", "vw")
        self.check("t", ("own", 1), "anew", "dbc")
        self.check("s", ("own", 0), "anew")
        self.check("r", ("kind", (("b",), "a", 2)), "anew", "a")
        self.assertEqual(len(self.site.kept()), 3)

    def test_behind_words_put_and_taken(self):
        self.made("t", "d")
        self.check("t", ("kind", PAPER), "anew", "dbc")
        self.things.put("t", "w", 1)
        self.check("t", ("own", 0), "anew")
        self.things.put("t", "w", 2)
        self.check("t", ("own", 0), "same")
        self.things.take("t", "w")
        self.check("t", ("kind", PAPER), "same")

    def test_behind_a_move(self):
        self.made("t", "d")
        self.check("t", ("kind", PAPER), "anew", "dbc")
        self.things.move("t", "c")
        self.check("t", ("kind", ((), "c", 1)), "anew")
        self.things.move("t", "d")
        self.check("t", ("kind", PAPER), "same")

    def test_held(self):
        self.made("t", "d", "w")
        self.made("s", "d")
        self.check("t", ("own", 0), "anew", "dbc")
        self.check("s", ("kind", PAPER), "anew")
        self.town.shift([], [("b", "w", None)])
        self.check("t", ("own", 0), "held", "b")
        self.check("s", ("kind", PAPER), "held")
        self.check("t", ("own", 0), "same")

    def test_deeds_that_do_not_touch(self):
        self.made("t", "d", "w")
        self.check("t", ("own", 0), "anew", "dbc")
        self.town.shift([], [("x", "w", 1), ("a", "w", 2)])
        self.town.shift([], [("x", "w", 2)])
        self.town.add("y", ["d"])
        self.check("t", ("own", 0), "same")

    def test_anew_where_the_answer_is_another(self):
        self.made("t", "d", "w")
        self.check("t", ("own", 0), "anew", "dbc")
        self.town.shift([], [("c", "w", 2)])
        self.check("t", ("kind", (("d", "b"), "c", 2)), "anew")
        self.town.shift([], [("c", "w", 1)])
        self.check("t", ("own", 0), "anew")

    def test_anew_where_only_the_paper_is_another(self):
        self.made("t", "d", "w")
        self.check("t", ("own", 0), "anew", "dbc")
        self.town.shift([], [("b", "w", 1)])
        self.check("t", ("own", 0), "anew")
        self.assertEqual(self.site.kept()[0][2], (("d",), "b", 1))
        self.town.shift([("d", ["c", "b"])], [])
        self.check("t", ("own", 0), "anew")

    def test_two_places_of_one_word(self):
        self.made("t", "d", "w")
        other = ThingSite(self.things, "w")
        self.check("t", ("own", 0), "anew", "dbc")
        self.assertEqual(other.kept(), [])
        self.assertEqual(other.ask("t"), (("own", 0), "anew"))
        self.assertEqual(len(self.town.reads()), 3)

    def test_asking_gives_no_number_to_a_row(self):
        self.made("t", "d", "vw")
        many = self.things.shapes.many()
        self.site.ask("t")
        ThingSite(self.things, "x").ask("t")
        self.assertEqual(self.things.shapes.many(), many)


class Kept(AsksCase):
    def keys(self, site=None):
        return [key for key, answer, paper, tag in (site or self.site).kept()]

    def test_what_is_kept(self):
        self.made("t", "d", "vw")
        self.made("s", "x")
        self.site.ask("t")
        self.site.ask("s")
        number = self.things.shape_of("t")
        expected = [(("d", number), ("own", 1), PAPER, 4), (("x", 0), ("kind", (("x",), None, 0)), (("x",), None, 0), 5)]
        self.assertEqual(self.site.kept(), expected)
        self.site.ask("t")
        self.assertEqual(self.site.kept(), expected[::-1])

    def test_more_pairs_than_room(self):
        for room in range(1, 9):
            self.setUp()
            site = ThingSite(self.things, "w", room)
            names = []
            for kind in "abcdx":
                for words in ["", "w"]:
                    names.append("t" + kind + words)
                    self.made(names[-1], kind, words)
            for place, name in enumerate(names):
                self.assertEqual(site.ask(name)[1], "anew")
                last = names[max(0, place + 1 - room):place + 1]
                self.assertEqual(self.keys(site), [(self.things.kind_of(one), self.things.shape_of(one)) for one in last])

    def test_four_where_no_room_is_told(self):
        for kind in "abcdx":
            self.made("t" + kind, kind)
            self.site.ask("t" + kind)
        self.assertEqual(self.keys(), [("b", 0), ("c", 0), ("d", 0), ("x", 0)])
        self.assertEqual(self.site.ask("ta")[1], "anew")

    def test_asked_again_goes_later(self):
        site = ThingSite(self.things, "w", 2)
        for kind in "abc":
            self.made("t" + kind, kind)
        ways = [site.ask("t" + kind)[1] for kind in "abaca"]
        self.assertEqual(ways, ["anew", "anew", "same", "anew", "same"])
        self.assertEqual(self.keys(site), [("c", 0), ("a", 0)])

    def test_a_kind_that_was_dropped_and_added_again(self):
        self.made("t", "x", "w")
        self.made("s", "d")
        self.check("t", ("own", 0), "anew", "x")
        self.check("s", ("kind", PAPER), "anew", "dbc")
        kept = self.site.kept()
        self.town.drop("x")
        self.assertEqual(refused(self.site.ask, "t"), (NoKind, "x"))
        self.assertEqual(self.site.kept(), kept)
        self.town.add("x", [])
        self.check("t", ("own", 0), "held", "x")
        self.assertEqual(self.keys(), [("d", 0), ("x", 1)])
        self.town.drop("x")
        self.town.add("x", ["a"])
        self.check("t", ("kind", (("x",), "a", 2)), "anew", "xa")

    def test_dropped_kinds_count_for_the_room_and_go(self):
        site = ThingSite(self.things, "w", 2)
        self.made("t", "x")
        self.made("s", "a")
        self.made("r", "b")
        site.ask("t")
        site.ask("s")
        self.town.drop("x")
        self.assertEqual(self.keys(site), [("x", 0), ("a", 0)])
        site.ask("r")
        self.assertEqual(self.keys(site), [("a", 0), ("b", 0)])

    def test_refused_asks_change_nothing(self):
        self.made("t", "x", "w")
        self.made("s", "d")
        self.site.ask("t")
        self.site.ask("s")
        self.town.drop("x")
        self.things.make("gone", "a")
        self.things.drop("gone")
        before, kept = towns.state(self.town), self.site.kept()
        for name, told in [("t", (NoKind, "x")), ("no", (NoThing, "no")), ("gone", (NoThing, "gone")), ("", (NoThing, ""))]:
            self.assertEqual(refused(self.site.ask, name), told)
        self.assertEqual((towns.state(self.town), self.site.kept()), (before, kept))

    def test_told_lists_changed_behind(self):
        self.made("t", "d")
        self.site.ask("t")
        self.site.kept().clear()
        self.assertEqual(len(self.site.kept()), 1)


if __name__ == "__main__":
    unittest.main()
