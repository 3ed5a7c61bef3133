"""Points 12, 13 and 14: rows of passes, against the passes carried out one after the other."""

import random
import unittest
from itertools import product

from midwalk.drops import after_pass
from midwalk.errors import InvalidRow, TooMany
from midwalk.rows import are_alike, kept_places, may_exchange, parting_list
from tests.common import TWENTY, expect, mark_lists, plain_row, short_lists, some_cases


def all_rows(numbers, most):
    """All rows of so many passes over these numbers."""
    for size in range(most + 1):
        for row in product(list(mark_lists(numbers)), repeat=size):
            yield list(row)


def first_unlike(one, other, lists):
    """The first of these lists of which two rows keep unlike places."""
    for values in lists:
        if plain_row(one, values) != plain_row(other, values):
            return values
    return None


def drawn_rows(many, numbers, most, seed):
    draw = random.Random(seed)
    for _ in range(many):
        yield [draw.sample(numbers, draw.randint(0, len(numbers))) for _ in range(draw.randint(0, most))]


class KeptPlacesTest(unittest.TestCase):

    def test_against_the_passes_one_after_the_other(self):
        lists = list(short_lists([1, 2], 6))
        for row in all_rows([1, 2], 3):
            for values in lists:
                self.assertEqual(kept_places(row, values), plain_row(row, values), (row, values))

    def test_long_lists(self):
        rows = list(drawn_rows(20, [1, 2, 3, -1, TWENTY], 8, 2))
        for _, values in some_cases(longest=2, many=40):
            for row in rows:
                self.assertEqual(kept_places(row, values), plain_row(row, values), (row, values))

    def test_values_at_the_kept_places_are_what_the_passes_leave(self):
        for row in drawn_rows(30, [1, 2, 3], 4, 3):
            for values in short_lists([1, 2, 3], 4):
                rest = values
                for marked in row:
                    rest = after_pass(marked, rest)
                self.assertEqual([values[place] for place in kept_places(row, values)], rest)

    def test_never_more_than_one_pass_with_all_marks(self):
        for row in all_rows([1, 2], 3):
            together = sorted({number for marked in row for number in marked})
            if row:
                for values in short_lists([1, 2], 6):
                    self.assertLessEqual(len(kept_places(row, values)), len(after_pass(together, values)))

    def test_more_marks_may_leave_more(self):
        self.assertEqual(kept_places([[1], [2]], [2, 1]), [])
        self.assertEqual(kept_places([[1, 2], [2]], [2, 1]), [1])

    def test_edges(self):
        self.assertEqual(kept_places([], []), [])
        self.assertEqual(kept_places([], [5, 5]), [0, 1])
        self.assertEqual(kept_places([[]] * 8, [5, 5]), [0, 1])
        self.assertEqual(kept_places([[5]] * 7, [5] * 120), [])
        self.assertEqual(kept_places([[5]] * 6, [5] * 120), [63])


class AlikeTest(unittest.TestCase):

    def test_against_all_short_lists(self):
        lists = list(short_lists([1, 2], 8))
        rows = list(all_rows([1, 2], 3))
        kept = [[plain_row(row, values) for values in lists] for row in rows]
        for one, ones in zip(rows, kept):
            for other, others in zip(rows, kept):
                want = next((values for at, values in enumerate(lists) if ones[at] != others[at]), None)
                self.assertIs(are_alike(one, other), want is None, (one, other))
                self.assertEqual(parting_list(one, other), want, (one, other))

    def test_three_numbers_and_unlike_lengths(self):
        lists = list(short_lists([-3, 0, 2], 4))
        others = list(drawn_rows(12, [2, -3, 0], 6, 5))
        for one in drawn_rows(12, [0, 2, -3], 2, 4):
            for other in others:
                want = first_unlike(one, other, lists)
                self.assertEqual(parting_list(one, other), want, (one, other))
                self.assertEqual(parting_list(other, one), want, (other, one))
                self.assertIs(are_alike(one, other), want is None)

    def test_four_passes_each(self):
        lists = list(short_lists([1, 2], 10))
        for row, other in (([[1], [1], [2], [1, 2]], [[1], [1], [1, 2], [2]]), ([[1]] * 4, [[1]] * 3 + [[1, 2]]),
                           ([[1, 2], [1], [2], [1]], [[1, 2], [1], [2], [2]])):
            want = first_unlike(row, other, lists)
            self.assertEqual(parting_list(row, other), want)

    def test_the_bound_is_reached(self):
        for passes in range(4):
            self.assertEqual(parting_list([[1]] * passes, [[1]] * (passes + 1)), [1] * 2 ** passes)

    def test_shortest_and_marked(self):
        for one in drawn_rows(25, [1, 2, 3, 4], 4, 6):
            for other in drawn_rows(25, [4, 3, 2, 1], 4, 7):
                parting = parting_list(one, other)
                marks = {number for marked in one + other for number in marked}
                shorter = min(len([marked for marked in row if marked]) for row in (one, other))
                self.assertIs(parting is None, are_alike(one, other))
                if parting is not None:
                    self.assertLessEqual(len(parting), 2 ** shorter)
                    self.assertLessEqual(set(parting), marks)
                    self.assertNotEqual(plain_row(one, parting), plain_row(other, parting))

    def test_order_of_marks_and_empty_passes(self):
        self.assertIs(are_alike([[], [1, 2], []], [[2, 1]]), True)
        self.assertIs(are_alike([], [[]] * 8), True)
        self.assertIs(are_alike([[1], [2]], [[1, 2]]), False)
        self.assertIs(are_alike([[1]], [[1], [1]]), False)
        self.assertIsNone(parting_list([[], [1, 2], []], [[2, 1]]))
        self.assertIsNone(parting_list([], []))
        self.assertEqual(parting_list([], [[TWENTY, -TWENTY]]), [-TWENTY])

    def test_rows_of_eight(self):
        eight = [[number, number + 1] for number in range(8)]
        self.assertIs(are_alike(eight, [marked[::-1] for marked in eight]), True)
        self.assertIs(are_alike(eight, eight[::-1]), False)
        self.assertIs(are_alike([[1]] * 8, [[1]] * 7 + [[]]), False)

    def test_too_many_passes(self):
        for one, other in (([], [[]] * 8), ([[1]] * 4, [[1]] * 4), ([[1]] * 8, []), ([[]], [[]] * 7)):
            parting_list(one, other)
        cases = [([[1]] * 5, [[1]] * 4, 9), ([[1]] * 5, [[1]] * 5, 10), ([[]] * 8, [[]], 9), ([[1]] * 8, [[1]] * 8, 16),
                 ([[1]] * 8, [[2]], 9), ([[]], [[2]] * 8, 9), ([[1], []] * 4, [[1]] * 4, 12)]
        for one, other, count in cases:
            expect(self, TooMany, "count", count, parting_list, one, other)
        expect(self, InvalidRow, "index", 1, parting_list, [[1]] * 8, [[1], "x"])
        expect(self, InvalidRow, "index", None, parting_list, [[1]] * 8, [[1]] * 9)

    def test_many_numbers(self):
        rows = [[number * 12 + at for at in range(12)] for number in range(8)]
        self.assertIsNone(parting_list(rows[:4], rows[:4]))
        self.assertEqual(parting_list(rows[:4], rows[4:]), [0])
        # A pass that comes first drops its own, and the skipped one is kept by it.
        self.assertEqual(parting_list(rows[:4], rows[:2] + [rows[3], rows[2]]), [24, 36, 24])


class ExchangeTest(unittest.TestCase):

    def test_against_the_rows_of_the_two(self):
        for one in mark_lists([-1, 0, 5]):
            for other in mark_lists([5, 0, -1]):
                want = parting_list([one, other], [other, one])
                self.assertIs(may_exchange(one, other), want is None)
                self.assertIs(may_exchange(one, other), are_alike([one, other], [other, one]))
                if want is not None:
                    self.assertEqual(len(want), 2 if set(one) & set(other) else 3)

    def test_cases(self):
        self.assertIs(may_exchange([], []), True)
        self.assertIs(may_exchange([1, 2], [2, 1]), True)
        self.assertIs(may_exchange([], list(range(12))), True)
        self.assertIs(may_exchange([1], []), True)
        self.assertIs(may_exchange([1], [2]), False)
        self.assertIs(may_exchange([1], [1, 2]), False)


if __name__ == "__main__":
    unittest.main()
