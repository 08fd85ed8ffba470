"""Rows of the desk that are not written as they have to be."""

import unittest

from taglook.errors import NoRow

from tests.desks import desk_of, diamond, state
from tests.refused import refused

NOT_NAMES = ["", "-", "A", "a,b", "a1", "abcdefghi", "7", "a:b", "a.w=1", "a>b=1", "a-", "?", "a\n"]
NOT_LISTS = ["", "a,", ",a", "a,,b", "--", "A", "a,B", "abcdefghi", "7", "a:b", "-,a"]
NOT_WHOLES = ["", "-", "a", "01", "-0", "00", "+1", "1.0", "--1", "1" * 61, "-" + "1" * 61, "0x1", "?"]
NOT_STRENGTHS = ["", "-", "3", "-1", "?", "01", "12", "a", "00", "2.0"]
NOT_PARTS = ["", "-", "a", "a:", ":a", "a:b:c", "a.w", "a.w=", "a.w=3", "a=1", "a.w=-1", "A:b", "a:B", "7", "a>b=1", "a.w=?1"]

WRONG = {"name": NOT_NAMES, "names": NOT_LISTS, "whole": NOT_WHOLES, "strength": NOT_STRENGTHS, "part": NOT_PARTS}

# A good row of each sort, the sorts of its words behind the first, and how many of them have to be there.
GOOD = [
    ("kind new b,a 2", ["name", "names", "whole"], 2),
    ("drop x", ["name"], 1),
    ("back", [], 0),
    ("store a w 2", ["name", "name", "strength"], 3),
    ("site new w 4 b", ["name", "name", "whole", "name"], 3),
    ("stand new w 4", ["name", "name", "whole"], 3),
    ("thing new a", ["name", "name"], 2),
    ("put t w -9", ["name", "name", "whole"], 3),
    ("take t w", ["name", "name"], 2),
    ("move t a", ["name", "name"], 2),
    ("lose t", ["name"], 1),
    ("look d w b", ["name", "name", "name"], 2),
    ("ask s d", ["name", "name"], 2),
    ("ask p t", ["name", "name"], 2),
    ("kept s", ["name"], 1),
    ("kept p", ["name"], 1),
    ("fallen s", ["name"], 1),
    ("kinds", [], 0),
    ("things", [], 0),
    ("elders a", ["name"], 1),
    ("line a", ["name"], 1),
    ("heirs a", ["name"], 1),
    ("rows a", ["name"], 1),
    ("tag a", ["name"], 1),
    ("deeds", [], 0),
    ("done", [], 0),
    ("known a w", ["name", "name"], 2),
    ("reads", [], 0),
    ("own t", ["name"], 1),
]
# These take parts, as many as there are.
WITH_PARTS = [("shift a:- b.w=1 c.w=?", [], 0), ("foretold s a:- b.w=1 c.w=?", ["name"], 1)]


class RowsCase(unittest.TestCase):
    def setUp(self):
        self.desk = diamond()
        self.before = state(self.desk)

    def check_no_row(self, place, row):
        self.assertEqual(refused(self.desk.say, row), (NoRow, place), row)
        self.assertEqual(state(self.desk), self.before, row)


class Amiss(RowsCase):
    def test_the_good_rows_are_good(self):
        for row, sorts, needed in GOOD + WITH_PARTS:
            self.assertIs(type(diamond().say(row)), str)
            words = row.split(" ")
            if len(words) > needed + 1 and "shift" not in row:
                diamond().say(" ".join(words[:needed + 1]))

    def test_a_first_word_that_is_no_sort(self):
        for row in ["", " ", "Kinds", "kin", "kindss", "nothing", "-", "7", "kinds,things", "back\n", "ok", "kind,a", "exit"]:
            self.check_no_row(0, row)
        for row, sorts, needed in GOOD + WITH_PARTS:
            words = row.split(" ")
            self.check_no_row(0, " ".join(["x" + words[0]] + words[1:]))
            self.check_no_row(0, " ".join([words[0].upper()] + words[1:]))

    def test_a_wrong_word_at_each_place(self):
        for row, sorts, needed in GOOD + WITH_PARTS:
            for place, sort in enumerate(sorts, 1):
                for wrong in WRONG[sort]:
                    words = row.split(" ")
                    words[place] = wrong
                    self.check_no_row(place, " ".join(words))
                    if place >= needed:
                        self.check_no_row(place, " ".join(words[:place + 1]))

    def test_a_word_that_lacks(self):
        for row, sorts, needed in GOOD + WITH_PARTS:
            words = row.split(" ")
            for many in range(1, needed + 1):
                self.check_no_row(many, " ".join(words[:many]))

    def test_a_word_too_many(self):
        for row, sorts, needed in GOOD:
            for more in ["a", "", "7", "-", "a b c", "a:b"]:
                self.check_no_row(len(sorts) + 1, row + " " + more)

    def test_the_first_of_several(self):
        for row, sorts, needed in GOOD:
            words = row.split(" ")
            for place in range(1, len(sorts) + 1):
                self.check_no_row(place, " ".join(words[:place] + ["?"] * (len(sorts) + 3 - place)))
                if place < needed:
                    self.check_no_row(place, " ".join(words[:place] + ["?"]))

    def test_blanks_at_the_ends_and_next_to_one_another(self):
        for row, sorts, needed in GOOD:
            words = row.split(" ")
            self.check_no_row(0, " " + row)
            self.check_no_row(len(words), row + " ")
            for place in range(1, len(words)):
                self.check_no_row(place, " ".join(words[:place] + [""] + words[place:]))

    def test_parts(self):
        for row, sorts, needed in WITH_PARTS:
            words = row.split(" ")
            for place in range(needed + 1, len(words) + 1):
                for wrong in NOT_PARTS:
                    self.check_no_row(place, " ".join(words[:place] + [wrong] + words[place:]))
            self.check_no_row(0, " " + row)
            self.check_no_row(len(words), row + " ")
            self.check_no_row(len(words), row + " ? !")


class PlacesOfKinds(RowsCase):
    def test_below_nought_and_beyond_the_kinds(self):
        for at in ["-1", "6", "7", "12", "-" + "9" * 60, "9" * 60]:
            self.check_no_row(3, f"kind new a {at}")

    def test_each_place_that_may_be(self):
        for at in range(6):
            desk = diamond()
            self.assertEqual(desk.say(f"kind new a {at}"), "new")
            kinds = list("abcdx")
            kinds.insert(at, "new")
            self.assertEqual(desk.say("kinds"), ",".join(kinds))
        desk = desk_of()
        self.assertEqual(refused(desk.say, "kind a - 1"), (NoRow, 3))
        self.assertEqual(desk.say("kind a - 0"), "a")

    def test_ahead_of_other_refusals(self):
        for row in ["kind a - 6", "kind new no 6", "kind new a,a -1", "kind new a,b,c,d,x,a 9", "kind new b,a,a 6"]:
            self.check_no_row(3, row)

    def test_behind_words_that_are_amiss(self):
        self.check_no_row(4, "kind new a 6 more")
        self.check_no_row(4, "kind new a -1 ")
        self.check_no_row(1, "kind A a 6")
        self.check_no_row(2, "kind new A 6")


class AheadOfOtherRefusals(RowsCase):
    def test_each(self):
        rows = [
            (2, "drop no more"), (2, "drop a "), (1, "drop"), (3, "kind a no x"), (2, "kind a a,"),
            (2, "shift no:- ?"), (3, "shift a:- a:- b"), (2, "shift no.w=1 a.w=3"), (1, "back now"),
            (3, "store no w x"), (3, "site s w x"), (3, "site s w"), (4, "site s w 0 S"), (4, "stand s w 0 b"),
            (3, "thing t no more"), (2, "thing t"), (3, "put no w x"), (3, "take no w x"), (2, "move no"), (2, "lose no x"),
            (3, "look no w B"), (2, "look no W"), (2, "ask no"), (3, "ask no a b"), (2, "kept no x"), (2, "fallen no x"),
            (2, "foretold no x"), (3, "foretold no a:- x"), (2, "elders no x"), (2, "known no"), (2, "own no x"),
        ]
        for place, row in rows:
            self.check_no_row(place, row)


if __name__ == "__main__":
    unittest.main()
