import unittest
from copy import deepcopy
from itertools import combinations

from taglook.errors import Ring
from taglook.merging import is_ring, merged

from tests import rowsets
from tests.refused import LikeText

TWO = [["a", "b"], ["b", "c", "a"]]
TWO_RING = [("a", "b", 0), ("b", "a", 1)]
FOUR = [["a", "b"], ["b", "c"], ["x", "c", "d"], ["d", "y", "a"]]
FOUR_RING = [("a", "b", 0), ("b", "c", 1), ("c", "d", 2), ("d", "a", 3)]


def round_of(count):
    """Rows of two names each that lead round through so many names."""
    names = rowsets.many_names(count)
    return [[names[k], names[(k + 1) % count]] for k in range(count)]


class RingsTold(unittest.TestCase):
    def steps_of(self, rows):
        with self.assertRaises(Ring) as caught:
            merged(rows)
        return caught.exception.steps

    def check_refused(self, rows):
        steps = self.steps_of(rows)
        self.assertIs(type(steps), list)
        self.assertTrue(rowsets.is_ring_in_words(rows, steps), (rows, steps))
        self.assertIs(is_ring(rows, steps), True)

    def test_two_rows(self):
        self.check_refused(TWO)
        self.check_refused([["a", "b"], ["b", "a"]])
        self.check_refused([["c", "a", "b"], ["c", "b", "a"]])

    def test_more_rows_leading_round(self):
        for count in range(2, 14):
            rows = round_of(count)
            self.check_refused(rows)
            self.check_refused(rows[::-1])
            self.assertEqual(len(self.steps_of(rows)), count)

    def test_two_long_rows_turned_about(self):
        names = rowsets.many_names(24)
        self.check_refused([names, names[::-1]])
        self.check_refused([names, [names[23], names[0]]])
        self.check_refused([names, names[12:] + names[:12]])

    def test_among_rows_that_would_have_an_order(self):
        good = [[], ["p", "a", "q"], ["p"], [], ["b", "q"]]
        for rows in [TWO, FOUR, round_of(3)]:
            for place in range(len(good) + 1):
                self.check_refused(good[:place] + rows + good[place:])
                self.check_refused(rows[:1] + good[:place] + rows[1:] + good[place:])

    def test_places_are_those_of_the_rows_as_handed_in(self):
        rows = [[], ["p"], ["p", "q"], ["q", "a", "b"], [], ["p", "b", "a"]]
        self.assertIn(self.steps_of(rows), [[("a", "b", 3), ("b", "a", 5)], [("b", "a", 5), ("a", "b", 3)]])

    def test_names_behind_and_ahead_of_the_ring_are_no_part_of_it(self):
        rows = [["p", "a", "b", "q"], ["p", "b", "a", "q"], ["q", "r"]]
        self.check_refused(rows)
        self.assertEqual({step[0] for step in self.steps_of(rows)}, {"a", "b"})

    def test_told_steps_are_the_askers_own(self):
        rows = deepcopy(TWO)
        steps = self.steps_of(rows)
        told = list(steps)
        rows[0].reverse()
        rows.pop()
        self.assertEqual(steps, told)
        steps.clear()
        self.assertEqual(self.steps_of(TWO), told)


class IsRing(unittest.TestCase):
    def test_those_of_the_document(self):
        self.assertIs(is_ring(TWO, TWO_RING), True)

    def test_begun_at_each_claim(self):
        for rows, ring in [(TWO, TWO_RING), (FOUR, FOUR_RING)]:
            for k in range(len(ring)):
                self.assertIs(is_ring(rows, ring[k:] + ring[:k]), True)

    def test_claims_of_one_row_one_behind_another(self):
        rows = [["a", "b", "c"], ["c", "a"]]
        self.assertIs(is_ring(rows, [("a", "b", 0), ("b", "c", 0), ("c", "a", 1)]), True)
        self.assertIs(is_ring(rows, [("a", "c", 0), ("c", "a", 1)]), True)

    def test_none_or_one_claim(self):
        self.assertIs(is_ring(TWO, []), False)
        self.assertIs(is_ring([], []), False)
        for claim in TWO_RING + [("a", "a", 0), ("a", "a", 1)]:
            self.assertIs(is_ring(TWO, [claim]), False, claim)

    def test_a_step_left_out(self):
        for k in range(len(FOUR_RING)):
            self.assertIs(is_ring(FOUR, FOUR_RING[:k] + FOUR_RING[k + 1:]), False)

    def test_a_step_told_twice(self):
        for k in range(len(FOUR_RING)):
            self.assertIs(is_ring(FOUR, FOUR_RING[:k] + [FOUR_RING[k]] + FOUR_RING[k:]), False)
        self.assertIs(is_ring(TWO, [TWO_RING[0], TWO_RING[0]]), False)

    def test_turned_about(self):
        self.assertIs(is_ring(FOUR, FOUR_RING[::-1]), False)
        for k, (one, other, place) in enumerate(FOUR_RING):
            self.assertIs(is_ring(FOUR, FOUR_RING[:k] + [(other, one, place)] + FOUR_RING[k + 1:]), False)
        self.assertIs(is_ring(FOUR, [(other, one, place) for one, other, place in FOUR_RING[::-1]]), False)

    def test_steps_changed_about(self):
        for first, second in combinations(range(4), 2):
            steps = list(FOUR_RING)
            steps[first], steps[second] = steps[second], steps[first]
            self.assertIs(is_ring(FOUR, steps), False)

    def test_two_claims_with_the_same_one(self):
        self.assertIs(is_ring(TWO, TWO_RING * 2), False)
        self.assertIs(is_ring(FOUR, FOUR_RING * 2), False)
        rows = [["a", "b"], ["b", "a"], ["a", "c"], ["c", "a"]]
        self.assertIs(is_ring(rows, [("a", "b", 0), ("b", "a", 1), ("a", "c", 2), ("c", "a", 3)]), False)

    def test_a_ring_within_the_steps_alone(self):
        rows = [["a", "b"], ["b", "c"], ["c", "b"]]
        self.assertIs(is_ring(rows, [("b", "c", 1), ("c", "b", 2)]), True)
        self.assertIs(is_ring(rows, [("a", "b", 0), ("b", "c", 1), ("c", "b", 2)]), False)
        self.assertIs(is_ring(rows, [("b", "c", 1), ("c", "b", 2), ("a", "b", 0)]), False)

    def test_two_rings_in_one_list(self):
        rows = [["a", "b"], ["b", "a"], ["c", "d"], ["d", "c"]]
        self.assertIs(is_ring(rows, [("a", "b", 0), ("b", "a", 1), ("c", "d", 2), ("d", "c", 3)]), False)

    def test_a_name_that_stands_ahead_of_itself(self):
        self.assertIs(is_ring([["a"], ["a"]], [("a", "a", 0), ("a", "a", 1)]), False)

    def test_names_that_the_row_does_not_have(self):
        self.assertIs(is_ring(TWO, [("a", "x", 0), ("x", "a", 1)]), False)
        self.assertIs(is_ring(TWO, [("a", "c", 0), ("c", "a", 1)]), False)
        self.assertIs(is_ring([["a"], ["b"]], [("a", "b", 0), ("b", "a", 1)]), False)

    def test_every_small_list_of_steps(self):
        claims = [(one, other, place) for one in "abc" for other in "abc" for place in range(2)]
        for first in claims:
            for second in claims:
                steps = [first, second]
                self.assertIs(is_ring(TWO, steps), rowsets.is_ring_in_words(TWO, steps), steps)


class WrongThings(unittest.TestCase):
    def check_no_ring(self, claim):
        self.assertIs(is_ring(TWO, [TWO_RING[0], claim]), False)
        self.assertIs(is_ring(TWO, [claim, TWO_RING[0]]), False)
        self.assertIs(is_ring(TWO, [TWO_RING[0], TWO_RING[1], claim]), False)

    def test_wrong_places(self):
        for place in [0, -1, -2, 2, 3, 10**30, -(10**30), True, False, None, "1", "", 1.0, [], [1], (1,), {}]:
            self.check_no_ring(("b", "a", place))

    def test_a_place_below_none_is_not_counted_from_the_end(self):
        self.assertIs(is_ring(TWO, [("a", "b", -2), ("b", "a", -1)]), False)

    def test_truths_are_no_places(self):
        self.assertIs(is_ring(TWO, [("a", "b", False), ("b", "a", True)]), False)
        self.assertIs(is_ring(TWO, [("a", "b", 0), ("b", "a", True)]), False)
        self.assertIs(is_ring(TWO, [("a", "b", False), ("b", "a", 1)]), False)

    def test_places_of_no_rows(self):
        self.assertIs(is_ring([], TWO_RING), False)
        self.assertIs(is_ring([[], []], TWO_RING), False)

    def test_tuples_of_other_lengths(self):
        for claim in [(), ("b",), ("b", "a"), ("b", "a", 1, 1), ("b", "a", 1, None), ("b", "c", "a", 1)]:
            self.check_no_ring(claim)

    def test_tuples_of_other_things_than_texts(self):
        for thing in [None, 0, 1, True, 1.5, [], ["a"], ("a",), {}, {"a": 1}, b"a", object()]:
            for claim in [(thing, "a", 1), ("b", thing, 1), (thing, thing, 1), (thing, thing, thing)]:
                self.check_no_ring(claim)
                self.assertIs(is_ring(TWO, [claim, claim]), False)

    def test_things_that_are_equal_to_texts_but_none(self):
        self.check_no_ring((LikeText("b"), "a", 1))
        self.check_no_ring(("b", LikeText("a"), 1))

    def test_what_is_handed_in_stays(self):
        for handed in [TWO_RING, TWO_RING[::-1], [], [("a", ["b"], 0), ("b", {}, None)]]:
            rows, steps = deepcopy(TWO), deepcopy(handed)
            is_ring(rows, steps)
            self.assertEqual(rows, TWO)
            self.assertEqual(steps, handed)


if __name__ == "__main__":
    unittest.main()
