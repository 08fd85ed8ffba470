import unittest
from itertools import permutations

from taglook.shapes import Shapes


def grown_one_by_one(shapes, words):
    number = 0
    for word in words:
        number = shapes.grown(number, word)
    return number


class Numbers(unittest.TestCase):
    def test_at_first(self):
        shapes = Shapes()
        self.assertEqual(shapes.many(), 1)
        self.assertEqual(shapes.words_of(0), [])
        self.assertEqual(shapes.number_of([]), 0)
        self.assertEqual(shapes.many(), 1)

    def test_in_the_order_in_which_rows_first_come(self):
        shapes = Shapes()
        rows = [["z"], ["a"], ["b", "a"], ["a", "b"], ["a", "b", "c"]]
        self.assertEqual([shapes.number_of(row) for row in rows], [1, 2, 3, 4, 5])
        self.assertEqual([shapes.number_of(row) for row in rows[::-1]], [5, 4, 3, 2, 1])
        self.assertEqual(shapes.many(), 6)
        self.assertEqual([shapes.words_of(number) for number in range(6)], [[]] + rows)

    def test_no_rows_on_the_way(self):
        shapes = Shapes()
        self.assertEqual(shapes.number_of(["a", "b", "c"]), 1)
        self.assertEqual(shapes.many(), 2)
        self.assertEqual(shapes.number_of(["a", "b"]), 2)
        self.assertEqual(shapes.number_of(["a"]), 3)

    def test_grown(self):
        shapes = Shapes()
        self.assertEqual(shapes.grown(0, "b"), 1)
        self.assertEqual(shapes.grown(1, "a"), 2)
        self.assertEqual(shapes.words_of(2), ["b", "a"])
        self.assertEqual(shapes.grown(0, "a"), 3)
        self.assertEqual(shapes.grown(3, "b"), 4)
        self.assertEqual(shapes.grown(1, "a"), 2)
        self.assertEqual(shapes.many(), 5)
        self.assertEqual(shapes.number_of(["b", "a"]), 2)

    def test_grown_of_a_row_that_came_otherwise(self):
        shapes = Shapes()
        self.assertEqual(shapes.number_of(["a", "b"]), 1)
        self.assertEqual(shapes.grown(1, "c"), 2)
        self.assertEqual(shapes.number_of(["a", "b", "c"]), 2)
        self.assertEqual(shapes.many(), 3)

    def test_without(self):
        shapes = Shapes()
        shapes.number_of(["a", "b", "c"])
        self.assertEqual(shapes.without(1, "b"), 2)
        self.assertEqual(shapes.words_of(2), ["a", "c"])
        self.assertEqual(shapes.without(1, "a"), 3)
        self.assertEqual(shapes.words_of(3), ["b", "c"])
        self.assertEqual(shapes.without(1, "c"), 4)
        self.assertEqual(shapes.words_of(4), ["a", "b"])
        self.assertEqual(shapes.many(), 5)
        self.assertEqual(shapes.without(2, "a"), 5)
        self.assertEqual(shapes.without(5, "c"), 0)
        self.assertEqual(shapes.many(), 6)

    def test_telling_brings_no_row(self):
        shapes = Shapes()
        shapes.number_of(["a", "b"])
        shapes.words_of(1)
        shapes.slot_of(1, "b")
        shapes.slot_of(1, "x")
        shapes.many()
        self.assertEqual(shapes.many(), 2)

    def test_each_row_by_whatever_way(self):
        shapes = Shapes()
        rows = [list(row) for length in range(4) for row in permutations("abc", length)]
        numbers = [grown_one_by_one(shapes, row) for row in rows]
        self.assertEqual(sorted(numbers), list(range(len(rows))))
        self.assertEqual(numbers, [shapes.number_of(row) for row in rows])
        for row, number in zip(rows, numbers):
            for word in row:
                self.assertEqual(shapes.without(number, word), shapes.number_of([one for one in row if one != word]))
        self.assertEqual(shapes.many(), len(rows))

    def test_words_that_would_be_alike_when_joined(self):
        shapes = Shapes()
        rows = [["ab", "c"], ["a", "bc"], ["abc"], ["a", "b", "c"], ["a,b", "c"], ["a", "b,c"], ["a b"], ["a", "b"]]
        self.assertEqual([shapes.number_of(row) for row in rows], [1, 2, 3, 4, 5, 6, 7, 8])

    def test_objects_apart(self):
        first, second = Shapes(), Shapes()
        first.number_of(["a"])
        self.assertEqual(second.many(), 1)
        self.assertEqual(second.number_of(["b"]), 1)
        self.assertEqual((first.words_of(1), second.words_of(1)), (["a"], ["b"]))


class Slots(unittest.TestCase):
    def test_places_counted_from_nought(self):
        shapes = Shapes()
        number = shapes.number_of(["c", "a", "b"])
        self.assertEqual([shapes.slot_of(number, word) for word in "cab"], [0, 1, 2])

    def test_none_where_it_is_not_there(self):
        shapes = Shapes()
        number = shapes.number_of(["c", "a"])
        for word in ["b", "", "ca", "C"]:
            self.assertIsNone(shapes.slot_of(number, word))
        self.assertIsNone(shapes.slot_of(0, "a"))

    def test_behind_grown_and_without(self):
        shapes = Shapes()
        number = shapes.number_of(["c", "a", "b"])
        self.assertEqual(shapes.slot_of(shapes.grown(number, "d"), "d"), 3)
        less = shapes.without(number, "c")
        self.assertEqual([shapes.slot_of(less, word) for word in "cab"], [None, 0, 1])


class Apart(unittest.TestCase):
    def test_lists_handed_in(self):
        shapes = Shapes()
        words = ["a", "b"]
        shapes.number_of(words)
        self.assertEqual(words, ["a", "b"])
        words.append("c")
        self.assertEqual(shapes.words_of(1), ["a", "b"])
        self.assertEqual(shapes.number_of(["a", "b"]), 1)
        self.assertEqual(shapes.number_of(words), 2)

    def test_lists_told(self):
        shapes = Shapes()
        shapes.number_of(["a", "b"])
        shapes.words_of(1).reverse()
        shapes.words_of(0).append("x")
        self.assertIs(type(shapes.words_of(1)), list)
        self.assertEqual((shapes.words_of(0), shapes.words_of(1)), ([], ["a", "b"]))
        self.assertEqual((shapes.number_of([]), shapes.slot_of(1, "b")), (0, 1))


if __name__ == "__main__":
    unittest.main()
