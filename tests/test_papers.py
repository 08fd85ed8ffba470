import unittest
from itertools import product

from taglook.errors import NotThere
from taglook.papers import found_all, is_paper, paper_of, rest_behind, wrong_at

from tests.refused import LikeText, refused
from tests.tellers import teller_of_word

LINE = ["c", "a", "b", "d"]


def lines_and_strengths():
    """Lines of no to four kinds, each kind with each strength."""
    for length in range(5):
        for strengths in product((0, 1, 2), repeat=length):
            yield LINE[:length], dict(zip(LINE, strengths))


def paper_in_words(line, strengths):
    having = [kind for kind in line if strengths[kind] != 0]
    if not having:
        return (tuple(line), None, 0)
    return (tuple(line[:line.index(having[0])]), having[0], strengths[having[0]])


def wrong_in_words(line, strengths, paper):
    passed, found, told = paper
    for place, kind in enumerate(passed):
        if place >= len(line) or line[place] != kind or strengths[line[place]] != 0:
            return place
    place = len(passed)
    if found is None:
        return place if place < len(line) or told != 0 else None
    if place >= len(line) or line[place] != found or told == 0 or told != strengths[found]:
        return place
    return None


class Papers(unittest.TestCase):
    def test_a_line_without_kinds(self):
        strength = teller_of_word("w", {"a": 2})
        self.assertEqual(paper_of([], "w", strength), ((), None, 0))
        self.assertEqual(strength.asked, [])

    def test_where_none_has_the_word(self):
        self.assertEqual(paper_of(LINE, "w", teller_of_word("w", {})), (("c", "a", "b", "d"), None, 0))

    def test_the_first_the_last_and_one_between(self):
        self.assertEqual(paper_of(LINE, "w", teller_of_word("w", {"c": 1, "d": 2})), ((), "c", 1))
        self.assertEqual(paper_of(LINE, "w", teller_of_word("w", {"a": 2, "b": 1})), (("c",), "a", 2))
        self.assertEqual(paper_of(LINE, "w", teller_of_word("w", {"d": 1})), (("c", "a", "b"), "d", 1))

    def test_soft_and_firm_alike_are_found(self):
        for one in [1, 2]:
            self.assertEqual(paper_of(["a", "b"], "w", teller_of_word("w", {"b": one})), (("a",), "b", one))

    def test_the_word_that_is_handed_in_is_asked_for(self):
        strength = teller_of_word("other", {"a": 2})
        self.assertEqual(paper_of(["a"], "w", strength), (("a",), None, 0))
        self.assertEqual(strength.asked, [("a", "w")])

    def test_each_line_and_each_strength(self):
        for line, strengths in lines_and_strengths():
            strength = teller_of_word("w", strengths)
            paper = paper_of(line, "w", strength)
            self.assertEqual(paper, paper_in_words(line, strengths))
            self.assertIs(type(paper[0]), tuple)
            reached = len(paper[0]) + (paper[1] is not None)
            self.assertEqual(strength.asked, [(kind, "w") for kind in line[:reached]])

    def test_what_is_handed_in_stays(self):
        line = list(LINE)
        paper_of(line, "w", teller_of_word("w", {"b": 1}))
        found_all(line, "w", teller_of_word("w", {"b": 1}))
        wrong_at(line, "w", teller_of_word("w", {"b": 1}), (("c",), None, 0))
        self.assertEqual(line, LINE)


class Rests(unittest.TestCase):
    def test_behind_each_kind(self):
        self.assertEqual([rest_behind(LINE, kind) for kind in LINE], [["a", "b", "d"], ["b", "d"], ["d"], []])

    def test_of_a_start_that_is_not_there(self):
        for start in ["x", "", "C", "ca", "c,a", " c"]:
            self.assertEqual(refused(rest_behind, LINE, start), (NotThere, start))
        self.assertEqual(refused(rest_behind, [], "a"), (NotThere, "a"))

    def test_told_and_handed_in_stay_apart(self):
        line = list(LINE)
        told = rest_behind(line, "c")
        told.clear()
        self.assertEqual(line, LINE)
        told = rest_behind(line, "c")
        line.clear()
        self.assertEqual(told, ["a", "b", "d"])


class FoundAll(unittest.TestCase):
    def test_each_line_and_each_strength(self):
        for line, strengths in lines_and_strengths():
            strength = teller_of_word("w", strengths)
            self.assertEqual(found_all(line, "w", strength), [kind for kind in line if strengths[kind] > 0])
            self.assertEqual(strength.asked, [(kind, "w") for kind in line])

    def test_whoever_goes_on_comes_to_just_these(self):
        for line, strengths in lines_and_strengths():
            strength = teller_of_word("w", strengths)
            met = []
            rest = line
            while paper_of(rest, "w", strength)[1] is not None:
                met.append(paper_of(rest, "w", strength)[1])
                rest = rest_behind(line, met[-1])
            self.assertEqual(found_all(line, "w", strength), met)

    def test_told_lists_are_new(self):
        line = ["a"]
        found_all(line, "w", teller_of_word("w", {"a": 1})).clear()
        self.assertEqual(line, ["a"])


class WrongAt(unittest.TestCase):
    STRENGTHS = {"c": 0, "a": 0, "b": 2, "d": 1}
    RIGHT = (("c", "a"), "b", 2)

    def check_wrong(self, place, paper, line=None, strengths=None):
        strength = teller_of_word("w", strengths or self.STRENGTHS)
        self.assertEqual(wrong_at(LINE if line is None else line, "w", strength, paper), place, paper)

    def test_the_right_paper(self):
        self.check_wrong(None, self.RIGHT)
        self.check_wrong(None, ((), None, 0), line=[])
        self.check_wrong(None, (("c", "a"), None, 0), line=["c", "a"])

    def test_a_passed_one_that_is_another(self):
        self.check_wrong(0, (("x", "a"), "b", 2))
        self.check_wrong(1, (("c", "x"), "b", 2))
        self.check_wrong(0, (("a", "c"), "b", 2))
        self.check_wrong(1, (("c", "c"), "b", 2))
        self.check_wrong(1, (("c", ""), "b", 2))

    def test_a_passed_one_beyond_the_line(self):
        self.check_wrong(2, (("c", "a", "x"), None, 0), line=["c", "a"])
        self.check_wrong(0, (("c",), None, 0), line=[])
        self.check_wrong(2, (("c", "a", "c", "a"), None, 0), line=["c", "a"])

    def test_a_passed_one_that_has_the_word(self):
        for place, kind in enumerate("ca"):
            for one in [1, 2]:
                self.check_wrong(place, self.RIGHT, strengths={**self.STRENGTHS, kind: one})
        self.check_wrong(2, (("c", "a", "b"), "d", 1))

    def test_nothing_found_where_the_line_goes_on(self):
        self.check_wrong(2, (("c", "a"), None, 0))
        self.check_wrong(0, ((), None, 0))
        self.check_wrong(1, (("c",), None, 0))

    def test_nothing_found_with_a_strength(self):
        for told in [1, 2, 3, -1]:
            self.check_wrong(2, (("c", "a"), None, told), line=["c", "a"])
            self.check_wrong(0, ((), None, told), line=[])

    def test_another_one_found(self):
        self.check_wrong(2, (("c", "a"), "d", 1))
        self.check_wrong(2, (("c", "a"), "d", 2))
        self.check_wrong(2, (("c", "a"), "c", 2))
        self.check_wrong(2, (("c", "a"), "", 2))
        self.check_wrong(1, (("c",), "b", 2))
        self.check_wrong(1, (("c",), "a", 2))

    def test_one_found_beyond_the_line(self):
        self.check_wrong(2, (("c", "a"), "b", 2), line=["c", "a"])
        self.check_wrong(0, ((), "b", 2), line=[])

    def test_another_strength_than_the_found_ones(self):
        for told in [0, 1, 3, -1, 10**30]:
            self.check_wrong(2, (("c", "a"), "b", told))
        self.check_wrong(1, (("c",), "a", 0))
        self.check_wrong(2, self.RIGHT, strengths={**self.STRENGTHS, "b": 1})
        self.check_wrong(2, self.RIGHT, strengths={**self.STRENGTHS, "b": 0})

    def test_the_first_wrong_place_is_told(self):
        self.check_wrong(0, (("x", "y"), "z", 0))
        self.check_wrong(1, (("c", "y"), None, 2))

    def test_every_paper_of_every_small_line(self):
        line = ["a", "b"]
        passed = [(), ("a",), ("b",), ("a", "b"), ("b", "a"), ("a", "a"), ("a", "b", "a"), ("a", "x")]
        for strengths in product((0, 1, 2), repeat=2):
            table = dict(zip(line, strengths))
            for paper in product(passed, (None, "a", "b", "x"), (0, 1, 2, 3)):
                strength = teller_of_word("w", table)
                for length in range(3):
                    self.check_every(line[:length], strength, table, paper)

    def check_every(self, line, strength, table, paper):
        place = wrong_in_words(line, table, paper)
        strength.asked.clear()
        self.assertEqual(wrong_at(line, "w", strength, paper), place)
        self.assertIs(is_paper(line, "w", strength, paper), place is None)
        self.assertIs(place is None, paper == paper_in_words(line, table))
        last = len(paper[0]) if place is None else place
        self.assertLessEqual(set(strength.asked), {(kind, "w") for kind in line[:last + 1]})


class IsPaper(unittest.TestCase):
    def check(self, told, thing):
        strength = teller_of_word("w", {"b": 1})
        self.assertIs(is_paper(["a", "b"], "w", strength, thing), told)
        self.assertLessEqual(set(strength.asked), {("a", "w"), ("b", "w")})

    def test_the_right_one(self):
        self.check(True, (("a",), "b", 1))

    def test_wrong_ones(self):
        for thing in [((), "b", 1), (("a",), "b", 2), (("a",), None, 0), (("b",), "b", 1), ((), None, 0)]:
            self.check(False, thing)

    def test_things_that_are_no_papers(self):
        things = [
            None, True, False, 0, 1, "", "paper", "a>b=1", [], (), {}, 1.5, object(), {"a": 1},
            [("a",), "b", 1], (["a"], "b", 1), ("a", "b", 1), ({"a": 0}, "b", 1), (None, "b", 1), (1, "b", 1),
            (("a",), "b", True), (("a",), "b", 1.0), (("a",), "b", "1"), (("a",), "b", None), (("a",), "b", [1]),
            (("a",), ["b"], 1), (("a",), ("b",), 1), (("a",), 1, 1), (("a",), True, 1), (("a",), {}, 1),
            (("a",), "b"), (("a",),), (("a",), "b", 1, 1), (("a",), "b", 1, None), ("a", "b", 1, 0),
            ((None,), "b", 1), ((["a"],), "b", 1), ((("a",),), "b", 1), ((0,), "b", 1), (({},), "b", 1),
        ]
        for thing in things:
            self.check(False, thing)

    def test_things_that_are_equal_to_texts_but_none(self):
        self.check(False, ((LikeText("a"),), "b", 1))
        self.check(False, (("a",), LikeText("b"), 1))

    def test_truths_are_no_strengths(self):
        nobody = teller_of_word("w", {})
        self.assertIs(is_paper([], "w", nobody, ((), None, 0)), True)
        self.assertIs(is_paper([], "w", nobody, ((), None, False)), False)
        self.assertIs(is_paper([], "w", nobody, ((), None, 0.0)), False)

    def test_the_thing_stays(self):
        thing = ([["a"]], {"b": []}, 1)
        self.check(False, thing)
        self.assertEqual(thing, ([["a"]], {"b": []}, 1))


if __name__ == "__main__":
    unittest.main()
