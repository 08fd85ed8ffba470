import unittest

from taglook.names import is_name

WRONG_SIGNS = ["A", "Z", "M", "0", "9", "5", " ", "\t", "\n", ",", "`", "{", "@", "[", "-", "_", ".", "~", "!"]


class Names(unittest.TestCase):
    def test_each_letter_is_a_name(self):
        for letter in "abcdefghijklmnopqrstuvwxyz":
            self.assertIs(is_name(letter), True, letter)

    def test_one_to_eight_letters(self):
        for length in range(1, 9):
            self.assertIs(is_name("azmbyqxk"[:length]), True, length)
            self.assertIs(is_name("z" * length), True, length)

    def test_no_letters_or_more_than_eight(self):
        for text in ["", "abcdefghi", "a" * 9, "a" * 10, "a" * 1000]:
            self.assertIs(is_name(text), False, text)

    def test_a_wrong_sign_at_each_place(self):
        for sign in WRONG_SIGNS:
            for length in range(1, 9):
                for place in range(length):
                    text = "a" * place + sign + "z" * (length - place - 1)
                    self.assertIs(is_name(text), False, text)

    def test_each_sign_but_small_letters(self):
        for code in [9, 10, 13] + list(range(32, 127)):
            small = ord("a") <= code <= ord("z")
            self.assertIs(is_name(chr(code)), small, code)
            self.assertIs(is_name("ab" + chr(code)), small, code)

    def test_a_line_end_or_blank_round_a_name(self):
        for text in ["a\n", "abcdefgh\n", "\na", "a\r", "a ", " a", "\ta", "a\t", "a,b", "a b", "a\nb"]:
            self.assertIs(is_name(text), False, text)

    def test_things_that_are_no_texts(self):
        things = [0, 1, -1, 10**60, 10**5000, True, False, None, 1.5, b"a", object()]
        things += [[], ["a"], ["a", "b"], (), ("a",), {}, {"a": "a"}, {"a"}, str, is_name]
        for thing in things:
            self.assertIs(is_name(thing), False)

    def test_what_is_handed_in_stays(self):
        thing = ["a", ["b"]]
        is_name(thing)
        self.assertEqual(thing, ["a", ["b"]])


if __name__ == "__main__":
    unittest.main()
