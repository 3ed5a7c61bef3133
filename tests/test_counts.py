"""Points 8 and 9: from which lists a list comes, and how many lists come out right."""

import unittest
from itertools import product

from midwalk.counts import count_before, count_right, each_before
from midwalk.errors import TooMany
from tests.common import TWENTY, expect, mark_lists, plain_pass, short_lists


def told_before(kinds, left, others, passes):
    """The number of lists that the point tells."""
    many = 2 ** passes
    return kinds ** ((many - 1) * left) * sum(kinds ** length for length in range(many)) ** (others + 1)


def before_by_search(numbers, marked, longest):
    """For each short list, all lists up to some length from which it comes, ascending."""
    found = {}
    for values in short_lists(numbers, 2 * longest + 1):
        found.setdefault(tuple(plain_pass(marked, values)), []).append(values)
    return {key: sorted(rows) for key, rows in found.items() if len(key) <= longest}


class BeforeTest(unittest.TestCase):

    def test_each_before_against_all_lists(self):
        # A pass leaves at least half of a list, rounded down: longer lists do not come into question.
        for numbers, longest in (([1, 2], 5), ([-1, 0, 1], 3)):
            for marked in mark_lists(numbers):
                found = before_by_search(numbers, marked, longest)
                for values in short_lists(numbers, longest):
                    rows = found[tuple(values)]
                    self.assertEqual(list(each_before(marked, values)), rows, (marked, values))
                    self.assertEqual(count_before(marked, values), len(rows), (marked, values))

    def test_the_order_of_the_marks_does_not_matter(self):
        rows = list(each_before([3, -1, TWENTY], [3, 5]))
        self.assertEqual(rows, list(each_before([TWENTY, 3, -1], [3, 5])))
        self.assertEqual(rows, sorted(rows))
        self.assertEqual(len(rows), 3 * 4 * 4)

    def test_marks_that_the_list_does_not_have(self):
        self.assertEqual(list(each_before([7], [])), [[], [7]])
        self.assertEqual(list(each_before([7], [5])), [[5], [5, 7], [7, 5], [7, 5, 7]])

    def test_more_passes_gone_back_one_by_one(self):
        cases = [([1], [], 4), ([1], [1], 4), ([1], [2], 4), ([1], [1, 2], 3), ([1, 3], [], 3), ([1, 3], [4], 2),
                 ([1, 3], [1], 2), ([1, 2, 3], [], 2), ([], [1, 2, 1], 4)]
        for marked, values, most in cases:
            rows = [values]
            for passes in range(most + 1):
                self.assertEqual(count_before(marked, values, passes=passes), len(rows), (marked, values, passes))
                if passes < most:
                    rows = [row for behind in rows for row in each_before(marked, behind)]

    def test_count_before_is_what_the_point_tells(self):
        for kinds in range(13):
            marked = list(range(kinds))
            for left in range(0, 6 if kinds else 1):
                for others in range(5):
                    values = [20] * others + [0] * left
                    for passes in range(5):
                        self.assertEqual(count_before(marked, values, passes=passes),
                                         told_before(kinds, left, others, passes))

    def test_the_largest_counts(self):
        marked = list(range(12))
        for left in (0, 60, 120):
            values = [0] * left + [20] * (120 - left)
            self.assertEqual(count_before(marked, values, passes=4), told_before(12, left, 120 - left, 4))

    def test_one_pass_if_nothing_is_said(self):
        self.assertEqual(count_before([1], [2]), count_before([1], [2], passes=1))

    def test_without_marks_or_passes_a_list_comes_from_itself(self):
        values = [3, -5, 3]
        self.assertEqual(list(each_before([], values)), [values])
        self.assertEqual([count_before([], values, passes=passes) for passes in range(5)], [1] * 5)
        self.assertEqual(count_before([3], values, passes=0), 1)

    def test_up_to_5000_lists(self):
        rows = list(each_before([1, 2], [1] * 9 + [3]))
        self.assertEqual(len(rows), 4608)
        self.assertEqual(rows, sorted(rows))
        self.assertTrue(all(plain_pass([1, 2], row) == [1] * 9 + [3] for row in rows))
        self.assertEqual(len({tuple(row) for row in rows}), 4608)

    def test_too_many_when_the_first_value_is_asked_for(self):
        cases = [([1, 2, 3, 4], [1] * 5, 5120), ([1], [2] * 12, 8192), (list(range(12)), [0] * 120, 12 ** 120 * 13),
                 (list(range(12)), [20] * 120, 13 ** 121)]
        for marked, values, count in cases:
            each_before(marked, values)
            expect(self, TooMany, "count", count, next, each_before(marked, values))
            self.assertEqual(count_before(marked, values), count)

    def test_one_long_run(self):
        self.assertEqual(list(each_before([1], [1] * 120)), [[1] * 240, [1] * 241])
        self.assertEqual(len(list(each_before([1], [2] * 11 + [1] * 109))), 4096)

    def test_yielded_lists_are_new(self):
        values = [2, 1]
        want = list(each_before([1], values))
        got = []
        for row in each_before([1], values):
            got.append(list(row))
            row.clear()
        self.assertEqual(got, want)
        self.assertEqual(len({id(row) for row in want}), len(want))
        alone = list(each_before([], values))[0]
        alone.append(5)
        self.assertEqual(values, [2, 1])


class RightTest(unittest.TestCase):

    def test_against_all_lists(self):
        for marks, others, most in ((0, 0, 4), (0, 2, 5), (1, 0, 9), (1, 1, 9), (2, 1, 6), (1, 2, 6), (3, 0, 6)):
            kinds = list(range(marks + others))
            for size in range(most + 1):
                for passes in range(5):
                    right = 0
                    for values in product(kinds, repeat=size):
                        rest = list(values)
                        for _ in range(passes):
                            rest = plain_pass(kinds[:marks], rest)
                        right += all(value >= marks for value in rest)
                    self.assertEqual(count_right(size, marks, others, passes=passes), right,
                                     (size, marks, others, passes))

    def test_large_arguments(self):
        self.assertEqual(count_right(60, 12, 12, passes=8), 24 ** 60)
        self.assertEqual(count_right(60, 12, 12, passes=6), 24 ** 60)
        self.assertEqual(count_right(60, 12, 0, passes=5), 0)
        self.assertEqual(count_right(31, 12, 0, passes=5), 12 ** 31)
        self.assertEqual(count_right(60, 12, 12, passes=0), 12 ** 60)
        # Those with a run of 32 or more: it begins the list, or another number stands before it.
        wrong = 12 ** 32 * 24 ** 28 + 28 * 12 ** 33 * 24 ** 27
        self.assertEqual(count_right(60, 12, 12, passes=5), 24 ** 60 - wrong)

    def test_steps_of_the_numbers(self):
        # One marked and one other number, no two marked ones together: the sum of the two before.
        counts = [count_right(size, 1, 1) for size in range(61)]
        self.assertEqual(counts[:2], [1, 2])
        for size in range(2, 61):
            self.assertEqual(counts[size], counts[size - 1] + counts[size - 2])

    def test_edges(self):
        self.assertEqual(count_right(0, 0, 0), 1)
        self.assertEqual(count_right(0, 0, 0, passes=0), 1)
        self.assertEqual(count_right(1, 0, 0), 0)
        self.assertEqual(count_right(1, 12, 0), 12)
        self.assertEqual(count_right(2, 12, 0), 0)
        self.assertEqual(count_right(1, 12, 3, passes=0), 3)


if __name__ == "__main__":
    unittest.main()
