"""Point 20: loops that drop doublets."""

import random
import unittest
from itertools import permutations, product

from midwalk.doublets import (after_doublet_pass, comes_out_right, count_right_lists, doublet_passes_needed,
                              doublet_visits)
from tests.common import TWENTY, short_lists


def plain_doublet_pass(values):
    """What a doublet pass leaves, by a for statement over a copy."""
    rest = list(values)
    for value in rest:
        if rest.count(value) > 1:
            rest.remove(value)
    return rest


def plain_doublet_visits(values):
    """The places that a doublet pass visits, by a for statement over pairs of a place and a value."""
    pairs = list(enumerate(values))
    visits = []
    for place, value in pairs:
        visits.append(place)
        equal = [pair for pair in pairs if pair[1] == value]
        if len(equal) > 1:
            pairs.remove(equal[0])
    return visits


def plain_passes_needed(values):
    """How many passes are carried out until there are no doublets."""
    rest, passes = values, 0
    while len(set(rest)) < len(rest):
        rest, passes = plain_doublet_pass(rest), passes + 1
    return passes


def unlike(values):
    """Whether no value occurs more than once."""
    return all(values.count(value) == 1 for value in values)


def some_lists(seed):
    """All short lists, some edges, and long drawn ones."""
    yield from short_lists([1, 2, 3], 7)
    yield from short_lists([-1, 0], 9)
    yield from short_lists([1, 2, 3, 4, 5], 4)
    for size in (119, 120):
        yield list(range(size))
        yield [TWENTY] * size
        yield [1, 2] * (size // 2)
        yield [number // 2 for number in range(size)]
        yield [*range(size // 2), *range(size // 2)]
        yield [*range(size // 2), *reversed(range(size // 2))]
    draw = random.Random(seed)
    for _ in range(400):
        pool = draw.sample([TWENTY, -TWENTY, *range(-30, 100)], draw.choice([1, 2, 3, 8, 60, 130]))
        yield draw.choices(pool, k=draw.choice([draw.randint(0, 12), draw.randint(0, 120), 120]))


class DoubletPassTest(unittest.TestCase):

    def test_what_is_left(self):
        for values in some_lists(1):
            self.assertEqual(after_doublet_pass(values), plain_doublet_pass(values), values)

    def test_visits(self):
        for values in some_lists(2):
            self.assertEqual(doublet_visits(values), plain_doublet_visits(values), values)

    def test_visits_as_seen_from_the_list_at_first(self):
        for values in some_lists(3):
            visits = doublet_visits(values)
            self.assertEqual(visits[:1], [0] if values else [])
            self.assertEqual(visits, sorted(visits))
            steps = [after - before for before, after in zip(visits, visits[1:])]
            self.assertLessEqual(set(steps), {1, 2})
            # What is dropped stands at or before the visited place, so the last visit may drop, too.
            dropped = len(values) - len(after_doublet_pass(values))
            self.assertIn(dropped - steps.count(2), (0, 1))

    def test_what_each_value_loses(self):
        for values in some_lists(4):
            visits = doublet_visits(values)
            rest = []
            for place, value in enumerate(values):
                occurs = values.count(value)
                missed = len([at for at, other in enumerate(values) if other == value and at not in visits])
                lost = min(occurs - missed, occurs - 1)
                if values[:place].count(value) >= lost:
                    rest.append(value)
            self.assertEqual(after_doublet_pass(values), rest)

    def test_equal_values(self):
        self.assertEqual(after_doublet_pass([]), [])
        self.assertEqual(after_doublet_pass([7]), [7])
        for size in range(2, 121):
            self.assertEqual(after_doublet_pass([7] * size), [7] * (size // 2))
            self.assertEqual(doublet_visits([7] * size), list(range(0, size, 2)))

    def test_no_doublets(self):
        values = [3, TWENTY, -3, 0]
        self.assertEqual(after_doublet_pass(values), values)
        self.assertEqual(doublet_visits(values), [0, 1, 2, 3])
        self.assertEqual(doublet_visits([]), [])

    def test_doublets_are_halved(self):
        for values in some_lists(5):
            rest = after_doublet_pass(values)
            many = [len([value for value in row if row.count(value) > 1]) for row in (values, rest)]
            self.assertLessEqual(many[1], many[0] // 2)


class RightTest(unittest.TestCase):

    def test_comes_out_right(self):
        for values in some_lists(6):
            self.assertIs(comes_out_right(values), unlike(plain_doublet_pass(values)), values)

    def test_right_by_what_is_not_visited(self):
        for values in some_lists(7):
            visits = doublet_visits(values)
            missed = [value for place, value in enumerate(values) if place not in visits]
            self.assertIs(comes_out_right(values), unlike(missed))

    def test_the_shortest_lists_that_do_not(self):
        for values in short_lists([1, 2, 3, 4], 4):
            self.assertIs(comes_out_right(values), len(values) < 4 or len(set(values)) > 1, values)

    def test_passes_needed(self):
        for values in some_lists(8):
            needed = doublet_passes_needed(values)
            self.assertEqual(needed, plain_passes_needed(values), values)
            self.assertIs(needed <= 1, comes_out_right(values))

    def test_passes_that_are_always_enough(self):
        self.assertEqual(doublet_passes_needed([]), 0)
        self.assertEqual(doublet_passes_needed([5]), 0)
        for size in range(1, 121):
            self.assertEqual(doublet_passes_needed([5] * size), len(bin(size)) - 3)
        for values in some_lists(9):
            if values:
                self.assertLessEqual(doublet_passes_needed(values), len(bin(len(values))) - 3)

    def test_count_right_lists(self):
        for size in range(7):
            for kinds in range(5):
                right = [row for row in product(range(kinds), repeat=size) if unlike(plain_doublet_pass(row))]
                self.assertEqual(count_right_lists(size, kinds), len(right), (size, kinds))
                self.assertIs(type(count_right_lists(size, kinds)), int)

    def test_counts_at_the_edges(self):
        self.assertEqual([count_right_lists(0, kinds) for kinds in range(5)], [1] * 5)
        self.assertEqual([count_right_lists(size, 0) for size in range(7)], [1] + [0] * 6)
        self.assertEqual([count_right_lists(size, 1) for size in range(7)], [1, 1, 1, 1, 0, 0, 0])
        self.assertEqual([count_right_lists(3, kinds) for kinds in range(5)], [0, 1, 8, 27, 64])
        self.assertEqual([count_right_lists(4, kinds) for kinds in range(5)], [0, 0, 14, 78, 252])

    def test_names_do_not_matter(self):
        for values in short_lists([0, 1, 2], 5):
            for names in permutations((TWENTY, -TWENTY, 0)):
                other = [names[value] for value in values]
                self.assertEqual(after_doublet_pass(other), [names[value] for value in after_doublet_pass(values)])


if __name__ == "__main__":
    unittest.main()
