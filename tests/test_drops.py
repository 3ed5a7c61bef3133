"""Points 5, 6, 7, 10 and 11: passes that drop, against plain loops and against what the points tell."""

import unittest

from midwalk.drops import (after_first_pass, after_head_pass, after_last_pass, after_pass, after_passes, by_numbers,
                           passes_needed, runs, visited_places)
from tests.common import mark_lists, plain_pass, plain_runs, short_lists, some_cases


def first_pass(marked, values):
    rest = list(values)
    visited = []
    for value in rest:
        visited.append(value)
        if value in marked:
            del rest[rest.index(value)]
    return rest, visited


def last_pass(marked, values):
    rest = list(values)
    many = 0
    for value in rest:
        many += 1
        if value in marked:
            del rest[-1]
    return rest, many


def head_pass(marked, values):
    rest = list(enumerate(values))
    visited = []
    for place, value in rest:
        visited.append(place)
        if value in marked:
            del rest[0]
    return [value for _, value in rest], visited


def pass_with_places(marked, values):
    rest = list(enumerate(values))
    visited = []
    at = 0
    for place, value in rest:
        visited.append(place)
        at += 1
        if value in marked:
            del rest[at - 1]
    return visited


def loop_by_numbers(marked, values):
    rest = list(values)
    for number in range(len(values)):
        try:
            value = rest[number]
        except IndexError:
            return rest, number
        if value in marked:
            rest.pop(number)
    return rest, None


def left_of_runs(marked, values, passes):
    """What so many passes leave by the places in the runs."""
    step = 2 ** passes
    dropped = set()
    for first, length in plain_runs(marked, values):
        left = range(step - 1, length, step)
        dropped.update(first + at for at in range(length) if at not in left)
    return [value for place, value in enumerate(values) if place not in dropped]


class DroppingPassTest(unittest.TestCase):

    def test_after_pass_is_a_for_statement(self):
        for marked, values in some_cases():
            self.assertEqual(after_pass(marked, values), plain_pass(marked, values), (marked, values))

    def test_visited_places_as_numbered_at_first(self):
        for marked, values in some_cases():
            self.assertEqual(visited_places(marked, values), pass_with_places(marked, values), (marked, values))

    def test_the_visited_marked_values_are_dropped(self):
        for marked, values in some_cases(longest=4):
            gone = [place for place in visited_places(marked, values) if values[place] in marked]
            left = [value for place, value in enumerate(values) if place not in gone]
            self.assertEqual(after_pass(marked, values), left)

    def test_runs(self):
        for marked, values in some_cases():
            found = runs(marked, values)
            self.assertEqual(found, plain_runs(marked, values), (marked, values))
            self.assertTrue(all(type(run) is tuple for run in found))

    def test_a_value_behind_an_odd_run_is_not_visited(self):
        for length in range(119):
            values = [1] * length + [2]
            self.assertEqual(length in visited_places([1], values), length % 2 == 0)
            self.assertEqual(after_pass([1], values), [1] * (length // 2) + [2])

    def test_edges(self):
        self.assertEqual(after_pass([], []), [])
        self.assertEqual(after_pass([1], []), [])
        self.assertEqual(visited_places([1], []), [])
        self.assertEqual(runs([1], []), [])
        self.assertEqual(after_pass([], [1, 2]), [1, 2])
        self.assertEqual(visited_places([], [1, 2]), [0, 1])
        self.assertEqual(runs([], [1, 2]), [])
        self.assertEqual(after_pass([1], [1] * 120), [1] * 60)
        self.assertEqual(visited_places([1], [1] * 120), list(range(0, 120, 2)))
        self.assertEqual(runs([2, 1], [1, 2] * 60), [(0, 120)])


class MorePassesTest(unittest.TestCase):

    def test_passes_one_after_the_other(self):
        for marked, values in some_cases(longest=4, many=150):
            rest = list(values)
            for passes in range(9):
                self.assertEqual(after_passes(marked, values, passes=passes), rest, (marked, values, passes))
                rest = plain_pass(marked, rest)

    def test_places_in_the_runs(self):
        for marked, values in some_cases(longest=4, many=150):
            for passes in range(9):
                found = after_passes(marked, values, passes=passes)
                self.assertEqual(found, left_of_runs(marked, values, passes), (marked, values, passes))

    def test_one_pass_if_nothing_is_said(self):
        self.assertEqual(after_passes([1], [1] * 7), [1] * 3)

    def test_passes_needed_is_the_least_number(self):
        for marked, values in some_cases():
            passes = 0
            rest = list(values)
            while any(value in marked for value in rest):
                rest = plain_pass(marked, rest)
                passes += 1
            self.assertEqual(passes_needed(marked, values), passes, (marked, values))

    def test_passes_needed_for_each_length(self):
        for length in range(121):
            self.assertEqual(passes_needed([5], [5] * length), len(bin(length)) - 2 if length else 0)
        self.assertEqual(passes_needed([], [5]), 0)
        self.assertEqual(passes_needed([5], [5, 5, 6, 5, 5, 5, 5, 6, 5]), 3)

    def test_more_marks_never_leave_more(self):
        all_marks = list(mark_lists([1, 2, 3]))
        for values in short_lists([1, 2, 3], 5):
            for fewer in all_marks:
                for more in all_marks:
                    if set(fewer) <= set(more):
                        for passes in (1, 2, 3):
                            self.assertLessEqual(len(after_passes(more, values, passes=passes)),
                                                 len(after_passes(fewer, values, passes=passes)))

    def test_lists_without_some_values(self):
        for values in short_lists([1, 2], 7):
            for passes in (1, 2):
                whole = len(after_passes([1], values, passes=passes))
                for bits in range(2 ** len(values)):
                    part = [value for at, value in enumerate(values) if bits >> at & 1]
                    less = whole - len(after_passes([1], part, passes=passes))
                    self.assertTrue(0 <= less <= len(values) - len(part), (values, part))


class FirstPassTest(unittest.TestCase):

    def test_after_first_pass_is_a_for_statement(self):
        for marked, values in some_cases():
            self.assertEqual(after_first_pass(marked, values), first_pass(marked, values)[0], (marked, values))

    def test_it_visits_and_drops_as_the_dropping_pass(self):
        for marked, values in some_cases(longest=4):
            visited = [values[place] for place in visited_places(marked, values)]
            self.assertEqual(first_pass(marked, values)[1], visited)
            left = list(values)
            for value in visited:
                if value in marked:
                    left.remove(value)
            self.assertEqual(after_first_pass(marked, values), left)
            self.assertEqual(sorted(left), sorted(after_pass(marked, values)))


class OtherPassesTest(unittest.TestCase):

    def test_by_numbers_is_a_loop_by_numbers(self):
        for marked, values in some_cases():
            self.assertEqual(by_numbers(marked, values), loop_by_numbers(marked, values), (marked, values))
            self.assertIs(type(by_numbers(marked, values)), tuple)

    def test_by_numbers_breaks_if_not_all_are_visited(self):
        for marked, values in some_cases(longest=4):
            rest, number = by_numbers(marked, values)
            many = len(visited_places(marked, values))
            self.assertEqual(rest, after_pass(marked, values))
            self.assertEqual(number, None if many == len(values) else many)

    def test_by_numbers_edges(self):
        self.assertEqual(by_numbers([1], []), ([], None))
        self.assertEqual(by_numbers([1], [1]), ([], None))
        self.assertEqual(by_numbers([1], [2, 1]), ([2], None))
        self.assertEqual(by_numbers([1], [1, 1]), ([1], 1))
        self.assertEqual(by_numbers([1], [1] * 120), ([1] * 60, 60))

    def test_after_last_pass_is_a_for_statement(self):
        for marked, values in some_cases():
            self.assertEqual(after_last_pass(marked, values), last_pass(marked, values)[0], (marked, values))

    def test_last_pass_by_the_least_number(self):
        for marked, values in some_cases(longest=4):
            sums = [k + sum(value in marked for value in values[:k]) for k in range(len(values) + 1)]
            least = min(k for k, total in enumerate(sums) if total >= len(values))
            left = values[:least - 1] if sums[least] == len(values) + 1 else values[:least]
            self.assertEqual(last_pass(marked, values)[1], least)
            self.assertEqual(after_last_pass(marked, values), left, (marked, values))

    def test_after_head_pass_is_a_for_statement(self):
        for marked, values in some_cases():
            left, visited = head_pass(marked, values)
            self.assertEqual(after_head_pass(marked, values), left, (marked, values))
            self.assertEqual(visited, visited_places(marked, values))

    def test_all_marked(self):
        for size in range(121):
            values = [number % 12 for number in range(size)]
            marked = list(range(12))
            self.assertEqual(after_last_pass(marked, values), values[:size // 2])
            self.assertEqual(after_head_pass(marked, values), values[size - size // 2:])


if __name__ == "__main__":
    unittest.main()
