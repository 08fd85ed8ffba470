import unittest
from copy import deepcopy
from itertools import permutations

from taglook.errors import Ring
from taglook.merging import is_merged, merged

from tests import rowsets


def renamed(rows, names):
    return [[names[name] for name in row] for row in rows]


class Examples(unittest.TestCase):
    def test_those_of_the_document(self):
        self.assertEqual(merged([["a", "b"], ["c"]]), ["a", "b", "c"])
        self.assertEqual(merged([["b", "a"], ["c", "b"], ["c", "a"]]), ["c", "b", "a"])

    def test_no_rows_or_rows_without_names(self):
        for rows in [[], [[]], [[], [], []], [[]] * 13]:
            self.assertEqual(merged(rows), [])

    def test_empty_rows_are_passed_over(self):
        self.assertEqual(merged([[], ["b"], [], ["a", "b"], []]), ["a", "b"])
        self.assertEqual(merged([[], ["b", "c"], [], ["a", "d"]]), ["b", "c", "a", "d"])

    def test_rows_alike_and_parts_of_one_another(self):
        self.assertEqual(merged([["c", "a", "b"]] * 13), ["c", "a", "b"])
        self.assertEqual(merged([["a", "b"], ["c", "a", "b"], ["c", "b"], ["b"]]), ["c", "a", "b"])

    def test_the_first_row_goes_on_as_long_as_it_can(self):
        self.assertEqual(merged([["a", "b", "c"], ["x", "b", "y"], ["z"]]), ["a", "x", "b", "c", "y", "z"])

    def test_a_name_that_became_free_goes_ahead_of_later_rows(self):
        self.assertEqual(merged([["b"], ["x", "b"], ["y"]]), ["x", "b", "y"])
        self.assertEqual(merged([["b"], ["c"], ["a", "c"], ["c", "b"]]), ["a", "c", "b"])

    def test_spelling_does_not_matter(self):
        self.assertEqual(merged([["z"], ["a"], ["m"]]), ["z", "a", "m"])
        self.assertEqual(merged([["zz", "y"], ["aa", "y"], ["b"]]), ["zz", "aa", "y", "b"])


class EverySmallCase(unittest.TestCase):
    def test_told_just_where_there_is_an_order(self):
        for rows in rowsets.small_row_lists():
            orders = rowsets.orders_of(rows)
            if orders:
                self.assertIn(merged(rows), orders, rows)
            else:
                with self.assertRaises(Ring, msg=rows) as caught:
                    merged(rows)
                self.assertIs(type(caught.exception.steps), list)
                self.assertTrue(rowsets.is_ring_in_words(rows, caught.exception.steps), rows)

    def test_at_each_place_the_name_of_the_rule(self):
        for rows in rowsets.small_row_lists():
            if rowsets.orders_of(rows):
                order = merged(rows)
                for place, name in enumerate(order):
                    self.assertEqual(name, rowsets.next_by_rule(rowsets.left_of(rows, order[:place])), rows)

    def test_where_another_order_departs(self):
        for rows in rowsets.small_row_lists():
            orders = rowsets.orders_of(rows)
            told = merged(rows) if orders else None
            for order in orders:
                if order != told:
                    self.check_departing(rows, told, order)

    def check_departing(self, rows, told, order):
        place = [one == other for one, other in zip(told, order)].index(False)
        left = rowsets.left_of(rows, told[:place])
        heads = [row[0] if row else None for row in left]
        self.assertIn(told[place], heads)
        if order[place] in heads:
            self.assertLess(heads.index(told[place]), heads.index(order[place]))

    def test_just_the_told_order_is_merged(self):
        for rows in rowsets.small_row_lists():
            orders = rowsets.orders_of(rows)
            told = merged(rows) if orders else None
            for order in permutations(rowsets.names_of(rows)):
                self.assertIs(is_merged(rows, list(order)), list(order) == told, rows)

    def test_other_names_one_for_one(self):
        names = {"a": "zz", "b": "m", "c": "aa", "d": "b"}
        for rows in rowsets.small_row_lists():
            if rowsets.orders_of(rows):
                self.assertEqual(merged(renamed(rows, names)), renamed([merged(rows)], names)[0])

    def test_an_order_laid_in_again(self):
        for rows in rowsets.small_row_lists():
            if rowsets.orders_of(rows):
                order = merged(rows)
                for place in range(len(rows) + 1):
                    self.assertEqual(merged(rows[:place] + [order] + rows[place:]), order, rows)


class ManyRows(unittest.TestCase):
    def setUp(self):
        self.rows = rowsets.twelve_rows()

    def test_the_rows_are_as_many_as_may_be(self):
        self.assertEqual(len(self.rows), 12)
        self.assertEqual(len(rowsets.names_of(self.rows)), 24)

    def test_each_name_once_and_each_row_kept(self):
        order = merged(self.rows)
        self.assertEqual(sorted(order), rowsets.names_of(self.rows))
        for row in self.rows:
            self.assertTrue(rowsets.keeps(order, row))

    def test_the_rule_at_each_place(self):
        for rows in [self.rows, self.rows[::-1], self.rows[5:] + self.rows[:5]]:
            order = merged(rows)
            for place, name in enumerate(order):
                self.assertEqual(name, rowsets.next_by_rule(rowsets.left_of(rows, order[:place])))

    def test_other_names(self):
        names = dict(zip(rowsets.many_names(24), reversed(rowsets.many_names(24))))
        self.assertEqual(merged(renamed(self.rows, names)), renamed([merged(self.rows)], names)[0])

    def test_rows_of_one_name_keep_their_order(self):
        names = rowsets.many_names(13)[::-1]
        self.assertEqual(merged([[name] for name in names]), names)

    def test_the_order_laid_in_again_once_and_twice_and_alone(self):
        order = merged(self.rows)
        self.assertEqual(merged([order]), order)
        self.assertEqual(merged([order, order]), order)
        for first in range(13):
            once = self.rows[:first] + [order] + self.rows[first:]
            self.assertEqual(merged(once), order)
            for second in range(14):
                self.assertEqual(merged(once[:second] + [order] + once[second:]), order)

    def test_one_long_row_with_others_crossing_it(self):
        names = rowsets.many_names(24)
        rows = [[names[k], names[k + 12]] for k in range(12)] + [names]
        self.assertEqual(merged(rows), names)


class IsMerged(unittest.TestCase):
    ROWS = [["a", "b"], ["c"]]

    def test_the_told_order(self):
        self.assertIs(is_merged(self.ROWS, ["a", "b", "c"]), True)
        self.assertIs(is_merged([], []), True)
        self.assertIs(is_merged([[], []], []), True)

    def test_other_orders_of_the_rows(self):
        self.assertIs(is_merged(self.ROWS, ["a", "c", "b"]), False)
        self.assertIs(is_merged(self.ROWS, ["c", "a", "b"]), False)

    def test_names_more_fewer_twice_or_strange(self):
        wrong = [
            [], ["a"], ["a", "b"], ["b", "c"], ["a", "b", "c", "d"], ["d", "a", "b", "c"], ["a", "b", "d"],
            ["a", "b", "c", "c"], ["a", "a", "b", "c"], ["a", "b", "b"], ["a", "b", "c", "a"], ["x", "y", "z"],
        ]
        for told in wrong:
            self.assertIs(is_merged(self.ROWS, told), False, told)
        self.assertIs(is_merged([], ["a"]), False)

    def test_rows_without_an_order(self):
        rows = [["a", "b"], ["b", "c", "a"]]
        for length in range(4):
            for told in permutations("abc", length):
                self.assertIs(is_merged(rows, list(told)), False)


class HandedInAndTold(unittest.TestCase):
    def test_what_is_handed_in_stays(self):
        for rows in [[["a", "b"], ["c"], []], [["a", "b"], ["b", "c", "a"]], rowsets.twelve_rows()]:
            told = ["a", "b", "c"]
            ahead = deepcopy(rows)
            try:
                merged(rows)
            except Ring:
                pass
            is_merged(rows, told)
            self.assertEqual(rows, ahead)
            self.assertEqual(told, ["a", "b", "c"])

    def test_the_told_list_is_the_askers_own(self):
        rows = [["a", "b", "c"]]
        told = merged(rows)
        told.reverse()
        told.append("d")
        self.assertEqual(rows, [["a", "b", "c"]])
        self.assertEqual(merged(rows), ["a", "b", "c"])
        self.assertEqual(merged([]), [])
        merged([]).append("a")
        self.assertEqual(merged([]), [])

    def test_rows_changed_behind_change_nothing(self):
        rows = [["a", "b"], ["c"]]
        told = merged(rows)
        rows[0].reverse()
        rows.clear()
        self.assertEqual(told, ["a", "b", "c"])


if __name__ == "__main__":
    unittest.main()
