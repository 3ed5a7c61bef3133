"""Points 1 to 4 and the head of the interface: names, errors and their order, and that nothing else changes."""

import copy
import inspect
import time
import unittest

from midwalk import counts, drops, rows
from midwalk.errors import InvalidMarked, InvalidNumber, InvalidPasses, InvalidRow, InvalidValues, TooMany
from tests.common import (TWENTY, expect, long_lists, not_whole, wrong_marked, wrong_rows, wrong_up_to, wrong_values)

OVER_VALUES = {
    drops: ["after_pass", "visited_places", "after_passes", "passes_needed", "runs", "after_first_pass",
            "after_last_pass", "after_head_pass", "by_numbers"],
    counts: ["count_before", "each_before"],
}
SIGNATURES = {
    drops: {
        "after_pass": "(marked, values)",
        "visited_places": "(marked, values)",
        "after_passes": "(marked, values, *, passes=1)",
        "passes_needed": "(marked, values)",
        "runs": "(marked, values)",
        "after_first_pass": "(marked, values)",
        "after_last_pass": "(marked, values)",
        "after_head_pass": "(marked, values)",
        "by_numbers": "(marked, values)",
    },
    counts: {
        "count_before": "(marked, values, *, passes=1)",
        "each_before": "(marked, values)",
        "count_right": "(size, marks, others, *, passes=1)",
    },
    rows: {
        "kept_places": "(row, values)",
        "are_alike": "(one, other)",
        "parting_list": "(one, other)",
        "may_exchange": "(one, other)",
    },
}


def asked(function):
    """The function, or for a generator a function that asks for all its values."""
    if function is counts.each_before:
        return lambda *args, **named: list(function(*args, **named))
    return function


def over_values():
    """All functions of marked numbers and values."""
    for module, names in OVER_VALUES.items():
        for name in names:
            yield asked(getattr(module, name))


def over_drops():
    """All functions of midwalk.drops."""
    return [getattr(drops, name) for name in OVER_VALUES[drops]]


def good_calls():
    """Each function with arguments that it takes, by the names of its parameters."""
    cases = [([1, 2], [1, 1, 3, 2, 1]), ([], []), ([1], []), ([], [5, 5]), ([-TWENTY], [TWENTY, -TWENTY])]
    for marked, values in cases:
        for function in over_values():
            yield function, {"marked": marked, "values": values}
        yield drops.after_passes, {"marked": marked, "values": values, "passes": 0}
        yield counts.count_before, {"marked": marked, "values": values, "passes": 4}
        yield rows.kept_places, {"row": [marked, [], marked], "values": values}
        yield rows.kept_places, {"row": [], "values": values}
        yield rows.may_exchange, {"one": marked, "other": [2, 1]}
    yield counts.count_right, {"size": 5, "marks": 2, "others": 3}
    yield counts.count_right, {"size": 5, "marks": 2, "others": 3, "passes": 2}
    for one, other in (([], []), ([[1], [2, 3]], [[3, 2], [1]]), ([[1], []], [[1]])):
        yield rows.are_alike, {"one": one, "other": other}
        yield rows.parting_list, {"one": one, "other": other}


def lists_in(result):
    """All list objects in a result."""
    found = [result] if isinstance(result, list) else []
    if isinstance(result, (list, tuple)):
        for part in result:
            found += lists_in(part)
    return found


class NamesTest(unittest.TestCase):

    def test_signatures(self):
        for module, told in SIGNATURES.items():
            for name, signature in told.items():
                function = getattr(module, name)
                self.assertEqual(str(inspect.signature(function)), signature, name)
                self.assertEqual(function.__module__, module.__name__)

    def test_only_each_before_is_a_generator(self):
        for module, told in SIGNATURES.items():
            for name in told:
                self.assertIs(inspect.isgeneratorfunction(getattr(module, name)), name == "each_before")

    def test_by_name_and_by_position(self):
        for function, named in good_calls():
            want = function(**named)
            passes = {key: named[key] for key in named if key == "passes"}
            others = [named[key] for key in named if key != "passes"]
            self.assertEqual(function(*others, **passes), want)
            self.assertEqual(function(**dict(reversed(list(named.items())))), want)

    def test_passes_by_name_only(self):
        for call, args in ((drops.after_passes, ([1], [1], 1)), (counts.count_before, ([1], [1], 1)),
                           (counts.count_right, (1, 1, 1, 1))):
            with self.assertRaises(TypeError):
                call(*args)


class NothingElseChangesTest(unittest.TestCase):

    def test_arguments_stay_and_results_are_new(self):
        for function, named in good_calls():
            before = copy.deepcopy(named)
            result = function(**named)
            kept = copy.deepcopy(result)
            mine = {id(part) for part in lists_in(list(named.values()))}
            theirs = [id(part) for part in lists_in(result)]
            self.assertEqual(len(set(theirs)), len(theirs))
            self.assertFalse(mine & set(theirs))
            for part in lists_in(result):
                part.append("changed")
            self.assertEqual(named, before)
            self.assertEqual(function(**named), kept)

    def test_kinds_of_results(self):
        for marked, values in long_lists(20, 8):
            self.assertIs(type(drops.passes_needed(marked, values)), int)
            self.assertIs(type(counts.count_before(marked, values)), int)
            for place in drops.visited_places(marked, values) + rows.kept_places([marked], values):
                self.assertIs(type(place), int)
            rest, number = drops.by_numbers(marked, values)
            self.assertIs(type(rest), list)
            self.assertIn(type(number), (int, type(None)))
        self.assertIs(type(counts.count_right(0, 0, 0)), int)

    def test_arguments_stay_if_an_error_is_raised(self):
        marked, values, row = [2, 1, 2], [1, "x", 2], [[1], [2, 2]]
        for function in over_values():
            expect(self, InvalidMarked, "index", 2, function, marked, [1, 2])
            expect(self, InvalidValues, "index", 1, function, [1], values)
        expect(self, InvalidRow, "index", 1, rows.kept_places, row, [1])
        expect(self, InvalidRow, "index", 1, rows.are_alike, row, row)
        expect(self, InvalidRow, "index", 1, rows.parting_list, row, row)
        expect(self, InvalidMarked, "index", 2, rows.may_exchange, [1], marked)
        self.assertEqual((marked, values, row), ([2, 1, 2], [1, "x", 2], [[1], [2, 2]]))
        nine = [[1]] * 9
        expect(self, InvalidRow, "index", None, rows.are_alike, nine, nine)
        self.assertEqual(nine, [[1]] * 9)

    def test_a_field_holds_what_was_passed(self):
        for thing in not_whole():
            for call in (lambda it: drops.after_passes([1], [1], passes=it),
                         lambda it: counts.count_before([1], [1], passes=it),
                         lambda it: counts.count_right(1, 1, 1, passes=it)):
                with self.assertRaises(InvalidPasses) as caught:
                    call(thing)
                self.assertIs(caught.exception.passes, thing)
            with self.assertRaises(InvalidNumber) as caught:
                counts.count_right(1, thing, 1)
            self.assertIs(caught.exception.number, thing)


class ErrorsOfArgumentsTest(unittest.TestCase):

    def test_marked(self):
        for function in over_values():
            for marked, index in wrong_marked():
                expect(self, InvalidMarked, "index", index, function, marked, [1, 2])
                expect(self, InvalidMarked, "index", index, function, marked, "wrong")
                expect(self, InvalidMarked, "index", index, function, marked, [1] * 121)

    def test_values(self):
        for function in over_values():
            for values, index in wrong_values():
                expect(self, InvalidValues, "index", index, function, [1], values)
                expect(self, InvalidValues, "index", index, function, [], values)

    def test_the_longest_arguments(self):
        marked = [TWENTY - number for number in range(12)]
        for function in over_drops():
            function(marked, marked * 10)
        self.assertEqual(len(list(counts.each_before([5], [5] * 120))), 2)
        self.assertEqual(counts.count_before(marked, [marked[0]] * 120), 12 ** 120 * 13)
        self.assertEqual(drops.after_pass(marked, marked * 10), marked[1::2] * 10)
        self.assertEqual(rows.kept_places([marked] * 8, [5] * 120), list(range(120)))
        self.assertTrue(rows.may_exchange(marked, marked[::-1]))

    def test_passes(self):
        for passes in wrong_up_to(8):
            expect(self, InvalidPasses, "passes", passes, drops.after_passes, [1], [1], passes=passes)
            expect(self, InvalidPasses, "passes", passes, counts.count_right, 1, 1, 1, passes=passes)
        for passes in wrong_up_to(4) + [8]:
            expect(self, InvalidPasses, "passes", passes, counts.count_before, [1], [1], passes=passes)
        self.assertEqual(drops.after_passes([1], [1, 2], passes=8), [2])
        self.assertEqual(counts.count_right(2, 1, 1, passes=8), 4)
        self.assertEqual(counts.count_before([1], [], passes=4), 16)
        for passes in (-1, 9, None):
            for call in (drops.after_passes, counts.count_before):
                expect(self, InvalidMarked, "index", 0, call, ["x"], "x", passes=passes)
                expect(self, InvalidValues, "index", None, call, [1], "x", passes=passes)
            expect(self, InvalidNumber, "number", -1, counts.count_right, 1, 1, -1, passes=passes)

    def test_numbers(self):
        for size in wrong_up_to(60):
            expect(self, InvalidNumber, "number", size, counts.count_right, size, 1, 1)
            expect(self, InvalidNumber, "number", size, counts.count_right, size, -2, -3, passes=-4)
        for marks in wrong_up_to(12):
            expect(self, InvalidNumber, "number", marks, counts.count_right, 1, marks, 1)
            expect(self, InvalidNumber, "number", marks, counts.count_right, 60, marks, 14, passes=9)
            expect(self, InvalidNumber, "number", marks, counts.count_right, 1, 1, marks)
            expect(self, InvalidNumber, "number", marks, counts.count_right, 60, 12, marks, passes=9)

    def test_rows(self):
        for row, index in wrong_rows():
            expect(self, InvalidRow, "index", index, rows.kept_places, row, [1])
            expect(self, InvalidRow, "index", index, rows.kept_places, row, "wrong")
            for call in (rows.are_alike, rows.parting_list):
                expect(self, InvalidRow, "index", index, call, row, [[1]])
                expect(self, InvalidRow, "index", index, call, [[1]], row)
                expect(self, InvalidRow, "index", index, call, [[1]] * 8, row)
                expect(self, InvalidRow, "index", index, call, row, [1, 2])
        for values, index in wrong_values():
            expect(self, InvalidValues, "index", index, rows.kept_places, [[1]] * 8, values)

    def test_exchanged_marks(self):
        for marked, index in wrong_marked():
            expect(self, InvalidMarked, "index", index, rows.may_exchange, marked, [1])
            expect(self, InvalidMarked, "index", index, rows.may_exchange, [], marked)
            expect(self, InvalidMarked, "index", index, rows.may_exchange, marked, "wrong")

    def test_too_many_comes_last(self):
        expect(self, InvalidValues, "index", 119, asked(counts.each_before), [1, 2], [5] * 119 + [None])
        expect(self, InvalidRow, "index", 7, rows.parting_list, [[1]] * 8, [[1]] * 7 + [[1, 1]])
        expect(self, TooMany, "count", 2 ** 121, asked(counts.each_before), [1], [5] * 120)

    def test_errors_of_a_generator_come_with_its_first_value(self):
        for args, error in ((("x", "x"), InvalidMarked), (([1], "x"), InvalidValues), (([1], [2] * 120), TooMany)):
            made = counts.each_before(*args)
            with self.assertRaises(error):
                next(made)


class TimeTest(unittest.TestCase):

    def check(self, call, *args, **named):
        begun = time.perf_counter()
        call(*args, **named)
        self.assertLess(time.perf_counter() - begun, 5)

    def test_passes(self):
        marked = [TWENTY - number for number in range(12)]
        for values in (marked * 10, [5] * 120, ([5] + marked[:2]) * 40):
            for function in over_drops():
                self.check(function, marked, values)
            self.check(drops.after_passes, marked, values, passes=8)
            self.check(counts.count_before, marked, values, passes=4)
            self.check(rows.kept_places, [marked] * 8, values)

    def test_counts(self):
        self.check(counts.count_right, 60, 12, 12, passes=8)
        for marked, values in (([1], [2] * 11 + [1] * 109), ([1], [1] * 109 + [2] * 11), ([1, 2], [1] * 9 + [3])):
            self.check(asked(counts.each_before), marked, values)

    def test_parting_lists(self):
        rows_of = [[TWENTY - (number * 12 + at) for at in range(12)] for number in range(8)]
        mixed = [[number * 7 + at * 5 for at in range(12)] for number in range(8)]
        for row in (rows_of, mixed):
            self.check(rows.parting_list, row, [])
            self.check(rows.parting_list, row[:4], row[:4])
            self.check(rows.parting_list, row[:4], row[:3] + row[7:])
            self.check(rows.parting_list, row[:4], row[:3])
            self.check(rows.parting_list, [row[0]] * 4, [row[0]] * 3 + [row[1]])
            self.check(rows.are_alike, row, row)


if __name__ == "__main__":
    unittest.main()
