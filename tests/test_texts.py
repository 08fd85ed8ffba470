import re
import unittest

from taglook.texts import read_fact, read_names, read_paper, read_row, read_turn, read_whole, show_names, show_paper

NAME = "[a-z]{1,8}"
NAMES = f"(?:-|{NAME}(?:,{NAME})*)"
# Each sort of word, written once more as a pattern.
SORTS = [
    (read_names, NAMES),
    (read_whole, "0|-?[1-9][0-9]{0,59}"),
    (read_turn, f"{NAME}:{NAMES}"),
    (read_fact, rf"{NAME}\.{NAME}=[012?]"),
    (read_paper, f"{NAMES}>(?:-|{NAME})=[012]"),
]
WORDS = [
    "-", "a", "a,b", "b,a,b", "abcdefgh", "abcdefgh,z", "0", "7", "10", "-1", "-90", "1" * 60, "-" + "9" * 60,
    "a:-", "a:b", "a:b,c", "abcdefgh:a,a", "a.w=0", "kind.word=1", "a.w=2", "a.w=?", "abcdefgh.abcdefgh=?",
    "->-=0", "a>-=0", "->b=2", "c,a>b=2", "a,a>a=0", "a>-=2", "abcdefgh>abcdefgh=1",
]
SIGNS = list(" !-,.:;=>?<_~aAzZ0129\n\t")


def changed(word):
    """The word, and the word with one sign put in, left out or changed."""
    yield word
    for place in range(len(word) + 1):
        for sign in SIGNS:
            yield word[:place] + sign + word[place:]
            yield word[:place] + sign + word[place + 1:]
        yield word[:place] + word[place + 1:]


class Rows(unittest.TestCase):
    def test_words_between_single_blanks(self):
        self.assertEqual(read_row("ask s a"), ("ask", "s", "a"))
        self.assertEqual(read_row("back"), ("back",))

    def test_blanks_at_the_ends_and_next_to_one_another(self):
        self.assertEqual(read_row(""), ("",))
        self.assertEqual(read_row(" "), ("", ""))
        self.assertEqual(read_row(" a"), ("", "a"))
        self.assertEqual(read_row("a "), ("a", ""))
        self.assertEqual(read_row("a  b"), ("a", "", "b"))
        self.assertEqual(read_row("   "), ("", "", "", ""))

    def test_other_signs_part_nothing(self):
        self.assertEqual(read_row("a,b\tc\nd"), ("a,b\tc\nd",))

    def test_joined_again(self):
        for text in ["", " ", "a", "a b", " a  b ", "shift a:- b.w=?"]:
            self.assertEqual(" ".join(read_row(text)), text)


class Told(unittest.TestCase):
    def test_names(self):
        self.assertEqual(read_names("-"), [])
        self.assertEqual(read_names("a"), ["a"])
        self.assertEqual(read_names("b,a,b"), ["b", "a", "b"])
        self.assertEqual(read_names("abcdefgh,z"), ["abcdefgh", "z"])

    def test_wrong_names(self):
        for word in ["", ",", "a,", ",a", "a,,b", "--", "-,a", "a,-", "A", "a b", "abcdefghi", "a,abcdefghi", "a1", " a"]:
            self.assertIsNone(read_names(word), word)

    def test_whole_numbers(self):
        for number in [0, 1, 9, 10, 100, -1, -10, 10**59, 10**60 - 1, -(10**60 - 1)]:
            told = read_whole(str(number))
            self.assertEqual(told, number)
            self.assertIs(type(told), int)

    def test_wrong_whole_numbers(self):
        wrong = ["", "-", "--1", "-0", "00", "01", "-01", "007", "+1", "1.0", "1e3", "1_0", " 1", "1 ", "1-", "0x1", "a", "?"]
        for word in wrong + ["1" * 61, "-" + "1" * 61, "0" * 60, str(10**60), "1\n"]:
            self.assertIsNone(read_whole(word), word)

    def test_turns(self):
        self.assertEqual(read_turn("a:-"), ("a", []))
        self.assertEqual(read_turn("kind:b"), ("kind", ["b"]))
        self.assertEqual(read_turn("a:c,b,c"), ("a", ["c", "b", "c"]))

    def test_wrong_turns(self):
        for word in ["", ":", "a", "a:", ":a", "-:a", "a:b:c", "a::b", "a,b:c", "A:b", "a:B", "a:b,", "a:,b", "a: b", "a=b"]:
            self.assertIsNone(read_turn(word), word)

    def test_facts(self):
        self.assertEqual(read_fact("a.w=0"), ("a", "w", 0))
        self.assertEqual(read_fact("kind.word=1"), ("kind", "word", 1))
        self.assertEqual(read_fact("a.w=2"), ("a", "w", 2))
        self.assertEqual(read_fact("a.w=?"), ("a", "w", None))
        self.assertEqual(read_fact("w.a=?"), ("w", "a", None))

    def test_wrong_facts(self):
        wrong = [
            "", "a", "a.w", "a.w=", "a=1", ".w=1", "a.=1", "a.w=3", "a.w=-1", "a.w=12", "a.w=01", "a.w=??", "a.w=-",
            "a.w=1=1", "a.w==1", "a.b.w=1", "a..w=1", "A.w=1", "a.W=1", "-.w=1", "a.-=1", "a,b.w=1", "a.w=?1", "a.w=x",
        ]
        for word in wrong:
            self.assertIsNone(read_fact(word), word)

    def test_papers(self):
        self.assertEqual(read_paper("c,a>b=2"), (("c", "a"), "b", 2))
        self.assertEqual(read_paper("->-=0"), ((), None, 0))
        self.assertEqual(read_paper("->b=1"), ((), "b", 1))
        self.assertEqual(read_paper("a,b>-=0"), (("a", "b"), None, 0))

    def test_papers_right_for_no_line(self):
        self.assertEqual(read_paper("a,a>a=0"), (("a", "a"), "a", 0))
        self.assertEqual(read_paper("->-=2"), ((), None, 2))

    def test_wrong_papers(self):
        wrong = [
            "", ">", "=", ">=", "->-", "->-=", "->=0", ">-=0", "-=0", "->-=3", "->-=?", "->-=-1", "->-=00", "->--=0",
            "->-=0=0", "->->-=0", "a>b>c=1", "a,>b=1", ",a>b=1", "a>b,c=1", "A>b=1", "a>B=1", "a>?=1", "a>b=1 ",
        ]
        for word in wrong:
            self.assertIsNone(read_paper(word), word)

    def test_what_is_told_has_its_sort(self):
        self.assertIs(type(read_names("a")), list)
        self.assertIs(type(read_turn("a:b")), tuple)
        self.assertIs(type(read_turn("a:b")[1]), list)
        self.assertIs(type(read_paper("a>b=1")[0]), tuple)
        self.assertIs(type(read_row("a")), tuple)

    def test_told_lists_are_new(self):
        read_names("-").append("x")
        read_turn("a:-")[1].append("x")
        self.assertEqual((read_names("-"), read_turn("a:-")), ([], ("a", [])))


class EverySign(unittest.TestCase):
    def test_read_just_where_it_is_written_so(self):
        for word in WORDS:
            for other in changed(word):
                for read, pattern in SORTS:
                    expected = re.fullmatch(pattern, other) is not None
                    self.assertIs(read(other) is not None, expected, (read.__name__, other))

    def test_each_word_is_of_some_sort(self):
        for word in WORDS:
            self.assertTrue(any(read(word) is not None for read, pattern in SORTS), word)


class Written(unittest.TestCase):
    def test_names(self):
        for names, word in [([], "-"), (["a"], "a"), (["b", "a", "b"], "b,a,b")]:
            self.assertEqual(show_names(names), word)
            self.assertEqual(show_names(tuple(names)), word)

    def test_papers(self):
        self.assertEqual(show_paper((("c", "a"), "b", 2)), "c,a>b=2")
        self.assertEqual(show_paper(((), None, 0)), "->-=0")
        self.assertEqual(show_paper(((), "b", 1)), "->b=1")
        self.assertEqual(show_paper((("a",), None, 0)), "a>-=0")

    def test_what_is_written_is_read_again(self):
        for names in [[], ["a"], ["a", "b", "a"], ["abcdefgh"] * 12]:
            self.assertEqual(read_names(show_names(names)), names)
            for found in [None, "a", "abcdefgh"]:
                for strength in [0, 1, 2]:
                    paper = (tuple(names), found, strength)
                    self.assertEqual(read_paper(show_paper(paper)), paper)

    def test_what_is_read_and_written_is_the_word(self):
        for word in WORDS:
            for other in changed(word):
                if read_names(other) is not None:
                    self.assertEqual(show_names(read_names(other)), other)
                if read_paper(other) is not None:
                    self.assertEqual(show_paper(read_paper(other)), other)

    def test_what_is_handed_in_stays(self):
        names = ["b", "a"]
        show_names(names)
        self.assertEqual(names, ["b", "a"])


if __name__ == "__main__":
    unittest.main()
