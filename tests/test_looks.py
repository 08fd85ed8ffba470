import unittest

from taglook.errors import NoKind, NoName, NotThere

from tests import eldersets
from tests.refused import no_names, refusal, refused
from tests.towns import state, town_of


class Looks(unittest.TestCase):
    def setUp(self):
        # The line of d is d, b, c, a.
        self.town, self.teller = town_of({**eldersets.DIAMOND, "x": []}, {("c", "w"): 1, ("a", "w"): 2, ("b", "v"): 2})

    def test_along_the_line(self):
        self.assertEqual(self.town.look("d", "w"), (("d", "b"), "c", 1))
        self.assertEqual(self.town.look("d", "v"), (("d",), "b", 2))
        self.assertEqual(self.town.look("d", "u"), (("d", "b", "c", "a"), None, 0))
        self.assertEqual(self.town.look("a", "w"), ((), "a", 2))
        self.assertEqual(self.town.look("x", "w"), (("x",), None, 0))

    def test_behind_a_start(self):
        self.assertEqual(self.town.look("d", "w", "d"), (("b",), "c", 1))
        self.assertEqual(self.town.look("d", "w", "b"), ((), "c", 1))
        self.assertEqual(self.town.look("d", "w", start="c"), ((), "a", 2))
        self.assertEqual(self.town.look("d", "w", "a"), ((), None, 0))
        self.assertEqual(self.town.look("d", "w", None), (("d", "b"), "c", 1))

    def test_what_is_read_and_what_is_not(self):
        self.town.look("d", "w", "b")
        self.assertEqual(self.town.reads(), [("c", "w")])
        self.town.look("d", "w")
        self.assertEqual(self.town.reads(), [("c", "w"), ("d", "w"), ("b", "w")])
        self.town.look("d", "w")
        self.town.look("b", "w", "b")
        self.assertEqual(self.town.reads(), [("c", "w"), ("d", "w"), ("b", "w"), ("a", "w")])
        self.assertEqual(self.town.reads(), self.teller.asked)

    def test_known_facts_are_not_read_whatever_the_teller_would_tell(self):
        self.town.shift([], [("b", "w", 0), ("d", "w", 0)])
        self.assertEqual(self.town.look("d", "w"), (("d", "b"), "c", 1))
        self.teller.facts.update({("b", "w"): 2, ("d", "w"): 1, ("c", "w"): 0})
        self.assertEqual(self.town.look("d", "w"), (("d", "b"), "c", 1))
        self.assertEqual(self.town.reads(), [("c", "w")])
        self.town.shift([], [("c", "w", None)])
        self.assertEqual(self.town.look("d", "w"), (("d", "b", "c"), "a", 2))
        self.assertEqual(self.town.reads(), [("c", "w"), ("c", "w"), ("a", "w")])

    def test_reads_of_kinds_that_are_dropped_since(self):
        self.town.look("d", "v")
        self.town.drop("d")
        self.assertEqual(self.town.reads(), [("d", "v"), ("b", "v")])
        self.town.add("d", [])
        self.town.look("d", "v")
        self.assertEqual(self.town.reads(), [("d", "v"), ("b", "v"), ("d", "v")])

    def test_by_the_line_as_it_is_then(self):
        self.town.look("d", "w")
        self.town.shift([("d", ["c", "b"])], [])
        self.assertEqual(self.town.look("d", "w"), (("d",), "c", 1))
        self.assertEqual(self.town.look("d", "v", "c"), ((), "b", 2))
        self.assertEqual(refused(self.town.look, "d", "v", "x"), (NotThere, "x"))


class Refused(unittest.TestCase):
    def setUp(self):
        self.town, self.teller = town_of({**eldersets.DIAMOND, "x": []}, {("a", "w"): 2})
        self.before = state(self.town)

    def tearDown(self):
        self.assertEqual(state(self.town), self.before)
        self.assertEqual(self.teller.asked, [])

    def test_no_kind_ahead_of_all(self):
        for kind in ["no", "", "A"]:
            for word in ["w", "W", None]:
                self.assertEqual(refused(self.town.known, kind, word), (NoKind, kind))
                for start in [None, "a", "no"]:
                    self.assertEqual(refused(self.town.look, kind, word, start), (NoKind, kind))

    def test_no_name_ahead_of_the_start(self):
        for word in no_names():
            for start in [None, "a", "no"]:
                told = refusal(self.town.look, "d", word, start)
                self.assertIsInstance(told, NoName)
                self.assertEqual(told.name, word)
            told = refusal(self.town.known, "d", word)
            self.assertIsInstance(told, NoName)
            self.assertEqual(told.name, word)

    def test_a_start_that_does_not_stand_in_the_line(self):
        for start in ["x", "no", "", "D", "d,b"]:
            self.assertEqual(refused(self.town.look, "d", "w", start), (NotThere, start))
        self.assertEqual(refused(self.town.look, "a", "w", "d"), (NotThere, "d"))


class Known(unittest.TestCase):
    def test_told_without_reading(self):
        town, teller = town_of({"a": [], "b": ["a"]}, {("a", "w"): 2})
        self.assertIsNone(town.known("a", "w"))
        town.look("b", "w")
        self.assertEqual((town.known("a", "w"), town.known("b", "w"), town.known("a", "v")), (2, 0, None))
        town.shift([], [("a", "v", 1), ("a", "w", None)])
        self.assertEqual((town.known("a", "w"), town.known("b", "w"), town.known("a", "v")), (None, 0, 1))
        self.assertEqual(town.reads(), [("b", "w"), ("a", "w")])


if __name__ == "__main__":
    unittest.main()
