import unittest

from taglook.errors import NoKind, NoName, NoRoom, NotThere
from taglook.papers import found_all
from taglook.sites import Site

from tests import eldersets
from tests.refused import no_names, no_rooms, refusal, refused
from tests.tellers import teller_of_word
from tests.towns import state, town_of


class Made(unittest.TestCase):
    def test_values(self):
        town, teller = town_of({})
        site = Site(town, "w")
        self.assertIs(site.town, town)
        self.assertEqual((site.word, site.room, site.start, site.kept()), ("w", 4, None, []))
        site = Site(town, "word", 8, "begin")
        self.assertEqual((site.word, site.room, site.start), ("word", 8, "begin"))
        site = Site(town, "w", start="s", room=1)
        self.assertEqual((site.word, site.room, site.start), ("w", 1, "s"))
        self.assertEqual(Site(town=town, word="w", room=3).room, 3)

    def test_rooms(self):
        town, teller = town_of({})
        for room in range(1, 9):
            self.assertEqual(Site(town, "w", room).room, room)

    def test_making_reads_and_does_nothing(self):
        town, teller = town_of(eldersets.DIAMOND)
        before = state(town)
        Site(town, "w", 4, "a")
        refused(Site, town, "W")
        self.assertEqual(state(town), before)
        self.assertEqual(teller.asked, [])

    def test_a_word_that_is_no_name(self):
        town, teller = town_of({"a": []})
        for thing in no_names():
            for room, start in [(4, None), (0, None), (True, "A"), (4, 5)]:
                told = refusal(Site, town, thing, room, start)
                self.assertIsInstance(told, NoName)
                self.assertEqual(told.name, thing)

    def test_a_room_that_is_none(self):
        town, teller = town_of({"a": []})
        for thing in no_rooms():
            for start in [None, "a", "A", 5]:
                told = refusal(Site, town, "w", thing, start)
                self.assertIsInstance(told, NoRoom)
                self.assertEqual(told.value, thing)
                self.assertIs(type(told.value), type(thing))

    def test_a_start_that_is_no_name(self):
        town, teller = town_of({"a": []})
        for thing in [thing for thing in no_names() if thing is not None]:
            told = refusal(Site, town, "w", 4, thing)
            self.assertIsInstance(told, NoName)
            self.assertEqual(told.name, thing)

    def test_a_start_that_no_kind_bears(self):
        town, teller = town_of({"a": []})
        self.assertEqual(Site(town, "w", 4, "nobody").start, "nobody")


class Example(unittest.TestCase):
    """The one of the document."""

    PAPER = (("c", "a"), "b", 2)

    def setUp(self):
        self.town, self.teller = town_of({"a": [], "b": [], "c": ["a", "b"]}, {("b", "w"): 2})
        self.assertEqual(self.town.line("c"), ["c", "a", "b"])

    def test_of_the_whole_line(self):
        site = Site(self.town, "w")
        self.assertEqual(site.ask("c"), (self.PAPER, "anew"))
        self.assertEqual(site.ask("c"), (self.PAPER, "same"))
        self.assertEqual(self.town.reads(), [("c", "w"), ("a", "w"), ("b", "w")])
        self.assertEqual(self.town.shift([], [("a", "w", None)]), ["a", "c"])
        self.assertEqual(site.ask("c"), (self.PAPER, "held"))
        self.assertEqual(self.town.reads()[3:], [("a", "w")])

    def test_of_a_start(self):
        site = Site(self.town, "w", 4, "a")
        self.assertEqual(site.ask("c"), (((), "b", 2), "anew"))
        self.assertEqual(self.town.reads(), [("b", "w")])
        self.town.shift([], [("c", "w", 1)])
        self.assertEqual(site.ask("c"), (((), "b", 2), "same"))
        self.town.shift([], [("c", "w", 0)])
        self.assertEqual(site.ask("c"), (((), "b", 2), "held"))
        self.assertEqual(self.town.reads(), [("b", "w")])

    def test_going_up_the_line(self):
        strengths = {"c": 1, "b": 2}
        town, teller = town_of({"a": [], "b": [], "c": ["a", "b"]}, teller_of_word("w", strengths).facts)
        met = []
        found = Site(town, "w").ask("c")[0][1]
        while found is not None:
            met.append(found)
            found = Site(town, "w", 4, found).ask("c")[0][1]
        self.assertEqual(met, found_all(town.line("c"), "w", teller_of_word("w", strengths)))
        self.assertEqual(met, ["c", "b"])


class Ways(unittest.TestCase):
    def setUp(self):
        # The line of d is d, b, c, a.
        self.town, self.teller = town_of({**eldersets.DIAMOND, "x": []}, {("c", "w"): 1, ("a", "w"): 2})
        self.site = Site(self.town, "w")

    def check(self, kind, paper, way, reads):
        before = len(self.town.reads())
        told = self.site.ask(kind)
        self.assertEqual(told, (paper, way))
        self.assertIs(type(told), tuple)
        self.assertEqual([one for one, word in self.town.reads()[before:]], list(reads))
        self.assertEqual(self.site.kept()[-1], (kind, paper, self.town.tag(kind)))

    def test_anew_and_same(self):
        self.check("d", (("d", "b"), "c", 1), "anew", "dbc")
        self.check("d", (("d", "b"), "c", 1), "same", "")
        self.check("a", ((), "a", 2), "anew", "a")
        self.check("b", (("b",), "a", 2), "anew", "")
        self.check("d", (("d", "b"), "c", 1), "same", "")
        self.check("x", (("x",), None, 0), "anew", "x")

    def test_deeds_that_do_not_touch(self):
        self.check("d", (("d", "b"), "c", 1), "anew", "dbc")
        self.town.shift([], [])
        self.town.shift([], [("x", "w", 1), ("a", "w", 1), ("c", "w", 1)])
        self.town.add("y", ["d"], 0)
        self.town.shift([("x", ["a"])], [("x", "w", 2)])
        self.town.drop("y")
        self.teller.facts[("d", "w")] = 2
        self.check("d", (("d", "b"), "c", 1), "same", "")

    def test_held_behind_doubts(self):
        self.check("d", (("d", "b"), "c", 1), "anew", "dbc")
        self.town.shift([], [("b", "w", None), ("c", "w", None)])
        self.check("d", (("d", "b"), "c", 1), "held", "bc")
        self.check("d", (("d", "b"), "c", 1), "same", "")

    def test_held_behind_facts_told_and_told_back(self):
        self.check("d", (("d", "b"), "c", 1), "anew", "dbc")
        self.town.shift([], [("b", "w", 2)])
        self.town.shift([], [("b", "w", 0)])
        self.check("d", (("d", "b"), "c", 1), "held", "")

    def test_held_behind_another_word_of_the_line(self):
        self.check("d", (("d", "b"), "c", 1), "anew", "dbc")
        self.town.shift([], [("a", "v", 1)])
        self.town.shift([], [("a", "v", 2)])
        self.check("d", (("d", "b"), "c", 1), "held", "")

    def test_held_behind_turns_beyond_the_found_one(self):
        self.check("d", (("d", "b"), "c", 1), "anew", "dbc")
        self.assertEqual(self.town.shift([("c", ["x"]), ("b", [])], []), ["b", "c", "d"])
        self.check("d", (("d", "b"), "c", 1), "held", "")

    def test_anew_behind_facts(self):
        self.check("d", (("d", "b"), "c", 1), "anew", "dbc")
        self.town.shift([], [("b", "w", 1)])
        self.check("d", (("d",), "b", 1), "anew", "")
        self.town.shift([], [("b", "w", 2)])
        self.check("d", (("d",), "b", 2), "anew", "")
        self.town.shift([], [("b", "w", None)])
        self.check("d", (("d", "b"), "c", 1), "anew", "b")
        self.town.shift([], [("c", "w", 0)])
        self.check("d", (("d", "b", "c"), "a", 2), "anew", "a")
        self.town.shift([], [("a", "w", 0)])
        self.check("d", (("d", "b", "c", "a"), None, 0), "anew", "")

    def test_anew_behind_a_teller_that_tells_otherwise(self):
        self.check("d", (("d", "b"), "c", 1), "anew", "dbc")
        self.teller.facts[("b", "w")] = 2
        self.town.shift([], [("b", "w", None)])
        self.check("d", (("d",), "b", 2), "anew", "b")

    def test_anew_behind_turns(self):
        self.check("d", (("d", "b"), "c", 1), "anew", "dbc")
        self.town.shift([("d", ["c", "b"])], [])
        self.check("d", (("d",), "c", 1), "anew", "")
        self.town.shift([("d", [])], [])
        self.check("d", (("d",), None, 0), "anew", "")

    def test_dropped_and_added_again(self):
        self.check("d", (("d", "b"), "c", 1), "anew", "dbc")
        self.town.drop("d")
        self.assertEqual(refused(self.site.ask, "d"), (NoKind, "d"))
        self.town.add("d", ["b", "c"])
        self.check("d", (("d", "b"), "c", 1), "held", "d")
        self.town.drop("d")
        self.town.add("d", ["c", "b"])
        self.check("d", (("d",), "c", 1), "anew", "d")

    def test_two_sites_of_one_word(self):
        other = Site(self.town, "w")
        self.check("d", (("d", "b"), "c", 1), "anew", "dbc")
        self.assertEqual(other.kept(), [])
        self.assertEqual(other.ask("d"), ((("d", "b"), "c", 1), "anew"))
        self.assertEqual(len(self.town.reads()), 3)
        self.town.shift([], [("b", "w", None)])
        self.check("d", (("d", "b"), "c", 1), "held", "b")
        self.assertEqual(other.ask("d"), ((("d", "b"), "c", 1), "held"))
        self.assertEqual(len(self.town.reads()), 4)

    def test_sites_of_several_words(self):
        other = Site(self.town, "v")
        self.assertEqual(other.ask("a"), ((("a",), None, 0), "anew"))
        self.check("a", ((), "a", 2), "anew", "a")
        self.assertEqual(self.town.reads(), [("a", "v"), ("a", "w")])


class Starts(unittest.TestCase):
    def setUp(self):
        self.town, self.teller = town_of({**eldersets.DIAMOND, "x": []}, {("c", "w"): 1, ("a", "w"): 2})
        self.site = Site(self.town, "w", 4, "b")

    def test_of_each_kind_of_whose_line_it_is(self):
        self.assertEqual(self.site.ask("d"), (((), "c", 1), "anew"))
        self.assertEqual(self.site.ask("b"), (((), "a", 2), "anew"))
        self.assertEqual(self.site.ask("d"), (((), "c", 1), "same"))
        self.assertEqual([kind for kind, word in self.town.reads()], ["c", "a"])

    def test_the_last_of_a_line(self):
        site = Site(self.town, "w", 4, "a")
        self.assertEqual(site.ask("a"), (((), None, 0), "anew"))
        self.assertEqual(self.town.reads(), [])

    def test_refused_where_it_does_not_stand_in_the_line(self):
        for kind in ["a", "c", "x"]:
            self.assertEqual(refused(self.site.ask, kind), (NotThere, "b"))
        self.assertEqual(refused(self.site.ask, "no"), (NoKind, "no"))
        nobody = Site(self.town, "w", 4, "nobody")
        self.assertEqual(refused(nobody.ask, "d"), (NotThere, "nobody"))
        self.assertEqual(refused(nobody.ask, "nobody"), (NoKind, "nobody"))

    def test_a_start_that_goes_and_comes(self):
        self.site.ask("d")
        kept = self.site.kept()
        self.town.shift([("d", ["c"])], [])
        self.assertEqual(refused(self.site.ask, "d"), (NotThere, "b"))
        self.assertEqual(self.site.kept(), kept)
        self.town.shift([("d", ["b", "c"])], [])
        self.assertEqual(self.site.ask("d"), (((), "c", 1), "held"))

    def test_a_refused_ask_changes_nothing(self):
        self.site.ask("d")
        self.site.ask("b")
        before, kept = state(self.town), self.site.kept()
        for kind in ["a", "c", "x", "no", "", "D"]:
            self.assertIsNotNone(refused(self.site.ask, kind))
        self.assertEqual((state(self.town), self.site.kept()), (before, kept))


class Kept(unittest.TestCase):
    def setUp(self):
        self.town, self.teller = town_of({name: [] for name in "abcdefghij"}, {("a", "w"): 2})

    def kinds_kept(self, site):
        return [kind for kind, paper, tag in site.kept()]

    def test_the_one_asked_longest_ago_first(self):
        site = Site(self.town, "w")
        for kind in "bad":
            site.ask(kind)
        self.assertEqual(site.kept(), [("b", (("b",), None, 0), 2), ("a", ((), "a", 2), 1), ("d", (("d",), None, 0), 4)])
        site.ask("b")
        self.assertEqual(self.kinds_kept(site), ["a", "d", "b"])
        site.ask("b")
        self.assertEqual(self.kinds_kept(site), ["a", "d", "b"])

    def test_each_room(self):
        for room in range(1, 9):
            site = Site(self.town, "w", room)
            for place, kind in enumerate("abcdefghij"):
                self.assertEqual(site.ask(kind)[1], "anew")
                self.assertEqual(self.kinds_kept(site), list("abcdefghij"[max(0, place + 1 - room):place + 1]))

    def test_four_where_no_room_is_told(self):
        site = Site(self.town, "w")
        for kind in "abcde":
            site.ask(kind)
        self.assertEqual(self.kinds_kept(site), ["b", "c", "d", "e"])
        self.assertEqual(site.ask("a")[1], "anew")
        self.assertEqual(self.kinds_kept(site), ["c", "d", "e", "a"])

    def test_asked_again_goes_later(self):
        site = Site(self.town, "w", 3)
        for kind in "abcad":
            site.ask(kind)
        self.assertEqual(self.kinds_kept(site), ["c", "a", "d"])
        self.assertEqual(site.ask("a")[1], "same")
        self.assertEqual(site.ask("b")[1], "anew")
        self.assertEqual(self.kinds_kept(site), ["d", "a", "b"])

    def test_a_room_of_one(self):
        site = Site(self.town, "w", 1)
        ways = [site.ask(kind)[1] for kind in "aabba"]
        self.assertEqual(ways, ["anew", "same", "anew", "same", "anew"])

    def test_held_ones_are_kept_with_the_tag_of_then(self):
        site = Site(self.town, "w")
        site.ask("a")
        site.ask("b")
        self.town.shift([], [("a", "w", None)])
        self.assertEqual(site.kept()[0][2], 1)
        self.assertEqual(site.ask("a")[1], "held")
        self.assertEqual(site.kept(), [("b", (("b",), None, 0), 2), ("a", ((), "a", 2), 11)])

    def test_dropped_kinds_stay_and_count_and_go(self):
        site = Site(self.town, "w", 2)
        site.ask("a")
        site.ask("b")
        self.town.drop("a")
        self.assertEqual(self.kinds_kept(site), ["a", "b"])
        site.ask("b")
        self.assertEqual(self.kinds_kept(site), ["a", "b"])
        self.assertEqual(refused(site.ask, "a"), (NoKind, "a"))
        site.ask("c")
        self.assertEqual(self.kinds_kept(site), ["b", "c"])
        self.town.add("a", [])
        self.assertEqual(site.ask("a")[1], "anew")

    def test_a_refused_ask_changes_no_order(self):
        site = Site(self.town, "w", 2)
        site.ask("a")
        site.ask("b")
        self.town.drop("a")
        before = site.kept()
        self.assertEqual(refused(site.ask, "a"), (NoKind, "a"))
        self.assertEqual(refused(site.ask, "no"), (NoKind, "no"))
        self.assertEqual(site.kept(), before)

    def test_told_lists_changed_behind(self):
        site = Site(self.town, "w")
        site.ask("a")
        site.kept().clear()
        told = site.kept()
        site.ask("b")
        self.assertEqual(len(told), 1)
        self.assertEqual(self.kinds_kept(site), ["a", "b"])


if __name__ == "__main__":
    unittest.main()
