"""Points 1 to 4 and the head of the interface: names, errors and their order, and that nothing else changes."""

import copy
import inspect
import time
import unittest

from midwalk import counts, doublets, drops, grows, kinds, rows, text
from midwalk.errors import (Endless, InvalidBrings, InvalidMarked, InvalidNumber, InvalidPasses, InvalidPlace, InvalidRow,
                            InvalidText, InvalidValue, InvalidValues, TooMany)
from midwalk.kinds import Walk
from tests.common import (TWENTY, expect, long_lists, not_places, not_whole, wrong_brings, wrong_marked, wrong_rows,
                          wrong_up_to, wrong_values)

OVER_VALUES = {
    drops: ["after_pass", "visited_places", "after_passes", "passes_needed", "runs", "after_first_pass",
            "after_last_pass", "after_head_pass", "by_numbers"],
    counts: ["count_before", "each_before"],
}
SIGNATURES = {
    drops: {
        "after_pass": "(marked, values)",
        "visited_places": "(marked, values)",
        "after_passes": "(marked, values, *, passes=1)",
        "passes_needed": "(marked, values)",
        "runs": "(marked, values)",
        "after_first_pass": "(marked, values)",
        "after_last_pass": "(marked, values)",
        "after_head_pass": "(marked, values)",
        "by_numbers": "(marked, values)",
    },
    counts: {
        "count_before": "(marked, values, *, passes=1)",
        "each_before": "(marked, values)",
        "count_right": "(size, marks, others, *, passes=1)",
    },
    rows: {
        "kept_places": "(row, values)",
        "are_alike": "(one, other)",
        "parting_list": "(one, other)",
        "may_exchange": "(one, other)",
    },
    grows: {
        "ring": "(brings, values)",
        "ends_ahead": "(brings, values)",
        "length_of": "(brings, values)",
        "grown_at_end": "(brings, values)",
        "grown_behind": "(brings, values)",
        "value_at_end": "(brings, values, place)",
        "value_behind": "(brings, values, place)",
        "visited_behind": "(brings, values, place)",
        "count_of": "(brings, values, value)",
    },
    doublets: {
        "after_doublet_pass": "(values)",
        "doublet_visits": "(values)",
        "comes_out_right": "(values)",
        "doublet_passes_needed": "(values)",
        "count_right_lists": "(size, kinds)",
    },
    kinds: {
        "Walk": "(values)",
    },
    text: {
        "format_values": "(values)",
        "parse_values": "(text)",
        "format_brings": "(brings)",
        "parse_brings": "(text)",
    },
}
DEEDS = {
    "visit": "(self)",
    "drop": "(self)",
    "drop_first": "(self, value)",
    "put_last": "(self, value)",
    "put_next": "(self, value)",
    "undo": "(self)",
}
PROPERTIES = ("row", "spot", "visited")


def asked(function):
    """The function, or for a generator a function that asks for all its values."""
    if function is counts.each_before:
        return lambda *args, **named: list(function(*args, **named))
    return function


def over_values():
    """All functions of marked numbers and values."""
    for module, names in OVER_VALUES.items():
        for name in names:
            yield asked(getattr(module, name))


def over_drops():
    """All functions of midwalk.drops."""
    return [getattr(drops, name) for name in OVER_VALUES[drops]]


def over_brings():
    """All functions of what values bring and values, as functions of these two."""
    for name, signature in SIGNATURES[grows].items():
        function = getattr(grows, name)
        if signature == "(brings, values)":
            yield function
        else:
            yield lambda brings, values, function=function: function(brings, values, 0)


def over_places():
    """All functions that take a place."""
    return [grows.value_at_end, grows.value_behind, grows.visited_behind]


def over_doublets():
    """All functions of midwalk.doublets that take values."""
    return [doublets.after_doublet_pass, doublets.doublet_visits, doublets.comes_out_right,
            doublets.doublet_passes_needed]


def good_calls():
    """Each function with arguments that it takes, by the names of its parameters."""
    yield from good_calls_of_drops()
    cases = [({3: [1, 2], 2: [1]}, [3, 2, 3]), ({}, []), ({1: []}, [1, 4, 4]), ({-TWENTY: [TWENTY]}, [-TWENTY, 0])]
    for brings, values in cases:
        for name in ("length_of", "grown_at_end", "grown_behind"):
            yield getattr(grows, name), {"brings": brings, "values": values}
        for place in (0, 4, TWENTY):
            for function in over_places():
                yield function, {"brings": brings, "values": values, "place": place}
        yield grows.count_of, {"brings": brings, "values": values, "value": 1}
        yield text.format_brings, {"brings": brings}
        yield text.parse_brings, {"text": text.format_brings(brings)}
    for brings, values in cases + [({1: [5, 2], 2: [1, 1]}, [5, 2])]:
        yield grows.ring, {"brings": brings, "values": values}
        yield grows.ends_ahead, {"brings": brings, "values": values}
        yield grows.visited_behind, {"brings": brings, "values": values, "place": 1}
    for values in ([], [5], [5, 5, 5, 5, 7], [TWENTY, -TWENTY, TWENTY]):
        for function in over_doublets():
            yield function, {"values": values}
        yield text.format_values, {"values": values}
        yield text.parse_values, {"text": text.format_values(values)}
    yield doublets.count_right_lists, {"size": 4, "kinds": 2}


def good_calls_of_drops():
    """Those of the functions over marked numbers and of rows."""
    cases = [([1, 2], [1, 1, 3, 2, 1]), ([], []), ([1], []), ([], [5, 5]), ([-TWENTY], [TWENTY, -TWENTY])]
    for marked, values in cases:
        for function in over_values():
            yield function, {"marked": marked, "values": values}
        yield drops.after_passes, {"marked": marked, "values": values, "passes": 0}
        yield counts.count_before, {"marked": marked, "values": values, "passes": 4}
        yield rows.kept_places, {"row": [marked, [], marked], "values": values}
        yield rows.kept_places, {"row": [], "values": values}
        yield rows.may_exchange, {"one": marked, "other": [2, 1]}
    yield counts.count_right, {"size": 5, "marks": 2, "others": 3}
    yield counts.count_right, {"size": 5, "marks": 2, "others": 3, "passes": 2}
    for one, other in (([], []), ([[1], [2, 3]], [[3, 2], [1]]), ([[1], []], [[1]])):
        yield rows.are_alike, {"one": one, "other": other}
        yield rows.parting_list, {"one": one, "other": other}


def lists_in(result):
    """All list and dict objects in a result."""
    found = [result] if isinstance(result, (list, dict)) else []
    if isinstance(result, (list, tuple)):
        for part in result:
            found += lists_in(part)
    if isinstance(result, dict):
        for part in result.values():
            found += lists_in(part)
    return found


def change(part):
    """Change a list or a dict that was returned."""
    if isinstance(part, dict):
        part["changed"] = part
    else:
        part.append("changed")


class NamesTest(unittest.TestCase):

    def test_signatures(self):
        for module, told in SIGNATURES.items():
            for name, signature in told.items():
                function = getattr(module, name)
                self.assertEqual(str(inspect.signature(function)), signature, name)
                self.assertEqual(function.__module__, module.__name__)

    def test_the_class(self):
        self.assertEqual(Walk.__bases__, (object,))
        for name, signature in DEEDS.items():
            self.assertEqual(str(inspect.signature(vars(Walk)[name])), signature, name)
            self.assertFalse(inspect.isgeneratorfunction(vars(Walk)[name]))
        for name in PROPERTIES:
            self.assertIsInstance(vars(Walk)[name], property)
        free = [name for name in vars(Walk) if not name.startswith("_")]
        self.assertEqual(sorted(free), sorted([*DEEDS, *PROPERTIES]))

    def test_only_each_before_is_a_generator(self):
        for module, told in SIGNATURES.items():
            for name in told:
                self.assertIs(inspect.isgeneratorfunction(getattr(module, name)), name == "each_before")

    def test_by_name_and_by_position(self):
        for function, named in good_calls():
            want = function(**named)
            passes = {key: named[key] for key in named if key == "passes"}
            others = [named[key] for key in named if key != "passes"]
            self.assertEqual(function(*others, **passes), want)
            self.assertEqual(function(**dict(reversed(list(named.items())))), want)

    def test_passes_by_name_only(self):
        for call, args in ((drops.after_passes, ([1], [1], 1)), (counts.count_before, ([1], [1], 1)),
                           (counts.count_right, (1, 1, 1, 1))):
            with self.assertRaises(TypeError):
                call(*args)


class NothingElseChangesTest(unittest.TestCase):

    def test_arguments_stay_and_results_are_new(self):
        for function, named in good_calls():
            before = copy.deepcopy(named)
            result = function(**named)
            kept = copy.deepcopy(result)
            mine = {id(part) for part in lists_in(list(named.values()))}
            theirs = [id(part) for part in lists_in(result)]
            self.assertEqual(len(set(theirs)), len(theirs))
            self.assertFalse(mine & set(theirs))
            for part in lists_in(result):
                change(part)
            self.assertEqual(named, before)
            self.assertEqual(function(**named), kept)

    def test_kinds_of_results(self):
        for marked, values in long_lists(20, 8):
            self.assertIs(type(drops.passes_needed(marked, values)), int)
            self.assertIs(type(counts.count_before(marked, values)), int)
            for place in drops.visited_places(marked, values) + rows.kept_places([marked], values):
                self.assertIs(type(place), int)
            rest, number = drops.by_numbers(marked, values)
            self.assertIs(type(rest), list)
            self.assertIn(type(number), (int, type(None)))
        self.assertIs(type(counts.count_right(0, 0, 0)), int)
        self.assertIs(type(doublets.doublet_passes_needed([1, 1])), int)
        self.assertIs(type(doublets.count_right_lists(2, 2)), int)
        self.assertIs(type(grows.length_of({}, [])), int)
        self.assertIs(type(grows.count_of({}, [], 1)), int)
        self.assertIs(type(Walk([1]).spot), int)
        self.assertIs(type(Walk([1]).drop_first(1)), int)

    def test_what_is_told_by_whether(self):
        for found in (rows.are_alike([], []), rows.may_exchange([], []), grows.ends_ahead({}, []),
                      grows.ends_ahead({1: []}, [1, 2]), doublets.comes_out_right([])):
            self.assertIs(found, True)
        for found in (rows.are_alike([[1]], []), rows.may_exchange([1], [2]), grows.ends_ahead({1: [2]}, [1]),
                      grows.ends_ahead({1: [0], 0: []}, [1]), doublets.comes_out_right([0] * 4)):
            self.assertIs(found, False)

    def test_arguments_stay_if_an_error_is_raised(self):
        marked, values, row = [2, 1, 2], [1, "x", 2], [[1], [2, 2]]
        for function in over_values():
            expect(self, InvalidMarked, "index", 2, function, marked, [1, 2])
            expect(self, InvalidValues, "index", 1, function, [1], values)
        expect(self, InvalidRow, "index", 1, rows.kept_places, row, [1])
        expect(self, InvalidRow, "index", 1, rows.are_alike, row, row)
        expect(self, InvalidRow, "index", 1, rows.parting_list, row, row)
        expect(self, InvalidMarked, "index", 2, rows.may_exchange, [1], marked)
        self.assertEqual((marked, values, row), ([2, 1, 2], [1, "x", 2], [[1], [2, 2]]))
        nine = [[1]] * 9
        expect(self, InvalidRow, "index", None, rows.are_alike, nine, nine)
        self.assertEqual(nine, [[1]] * 9)

    def test_what_values_bring_stays_if_an_error_is_raised(self):
        wrong, brings, values = {2: [1], 1: ["x"]}, {2: [1], 1: [3, 2]}, [3, 2]
        for function in over_brings():
            expect(self, InvalidBrings, "key", 1, function, wrong, values)
            expect(self, InvalidValues, "index", 1, function, brings, [3, "x"])
        for function in (grows.length_of, grows.grown_at_end, grows.grown_behind):
            expect(self, Endless, "ring", [2, 1], function, brings, values)
        expect(self, TooMany, "count", 120 * 157, grows.grown_behind, {2: [1] * 12, 1: [0] * 12}, [2] * 120)
        expect(self, InvalidPlace, "place", -1, grows.visited_behind, brings, values, -1)
        expect(self, InvalidValue, "value", None, grows.count_of, brings, values, None)
        self.assertEqual((wrong, brings, values), ({2: [1], 1: ["x"]}, {2: [1], 1: [3, 2]}, [3, 2]))
        self.assertEqual(list(brings), [2, 1])

    def test_the_ring_of_an_error_is_new(self):
        brings = {1: [2], 2: [1]}
        calls = [lambda function=function: function(brings, [1]) for function in over_brings()]
        for _ in range(2):
            for call in calls:
                try:
                    found = call()
                except Endless as error:
                    self.assertEqual(error.ring, [1, 2])
                    self.assertFalse(any(error.ring is part for part in lists_in(brings)))
                    error.ring.append(3)
                else:
                    self.assertIn(found, ([1, 2], False, 1))
            self.assertEqual(brings, {1: [2], 2: [1]})

    def test_a_generator_yields_new_lists(self):
        first = next(counts.each_before([1], [2, 2]))
        made = counts.each_before([1], [2, 2])
        next(made).append("changed")
        self.assertEqual(list(made), list(counts.each_before([1], [2, 2]))[1:])
        self.assertEqual(first, [1, 2, 1, 2])

    def test_a_field_holds_what_was_passed(self):
        for thing in not_whole():
            for call in (lambda it: drops.after_passes([1], [1], passes=it),
                         lambda it: counts.count_before([1], [1], passes=it),
                         lambda it: counts.count_right(1, 1, 1, passes=it)):
                with self.assertRaises(InvalidPasses) as caught:
                    call(thing)
                self.assertIs(caught.exception.passes, thing)
            with self.assertRaises(InvalidNumber) as caught:
                counts.count_right(1, thing, 1)
            self.assertIs(caught.exception.number, thing)
            with self.assertRaises(InvalidNumber) as caught:
                doublets.count_right_lists(1, thing)
            self.assertIs(caught.exception.number, thing)
            for call in over_places():
                with self.assertRaises(InvalidPlace) as caught:
                    call({}, [1], thing)
                self.assertIs(caught.exception.place, thing)
            with self.assertRaises(InvalidValue) as caught:
                grows.count_of({}, [1], thing)
            self.assertIs(caught.exception.value, thing)


class ErrorsOfArgumentsTest(unittest.TestCase):

    def test_marked(self):
        for function in over_values():
            for marked, index in wrong_marked():
                expect(self, InvalidMarked, "index", index, function, marked, [1, 2])
                expect(self, InvalidMarked, "index", index, function, marked, "wrong")
                expect(self, InvalidMarked, "index", index, function, marked, [1] * 121)

    def test_values(self):
        for function in over_values():
            for values, index in wrong_values():
                expect(self, InvalidValues, "index", index, function, [1], values)
                expect(self, InvalidValues, "index", index, function, [], values)

    def test_the_longest_arguments(self):
        marked = [TWENTY - number for number in range(12)]
        for function in over_drops():
            function(marked, marked * 10)
        self.assertEqual(len(list(counts.each_before([5], [5] * 120))), 2)
        self.assertEqual(counts.count_before(marked, [marked[0]] * 120), 12 ** 120 * 13)
        self.assertEqual(drops.after_pass(marked, marked * 10), marked[1::2] * 10)
        self.assertEqual(rows.kept_places([marked] * 8, [5] * 120), list(range(120)))
        self.assertTrue(rows.may_exchange(marked, marked[::-1]))

    def test_passes(self):
        for passes in wrong_up_to(8):
            expect(self, InvalidPasses, "passes", passes, drops.after_passes, [1], [1], passes=passes)
            expect(self, InvalidPasses, "passes", passes, counts.count_right, 1, 1, 1, passes=passes)
        for passes in wrong_up_to(4) + [8]:
            expect(self, InvalidPasses, "passes", passes, counts.count_before, [1], [1], passes=passes)
        self.assertEqual(drops.after_passes([1], [1, 2], passes=8), [2])
        self.assertEqual(counts.count_right(2, 1, 1, passes=8), 4)
        self.assertEqual(counts.count_before([1], [], passes=4), 16)
        for passes in (-1, 9, None):
            for call in (drops.after_passes, counts.count_before):
                expect(self, InvalidMarked, "index", 0, call, ["x"], "x", passes=passes)
                expect(self, InvalidValues, "index", None, call, [1], "x", passes=passes)
            expect(self, InvalidNumber, "number", -1, counts.count_right, 1, 1, -1, passes=passes)

    def test_numbers(self):
        for size in wrong_up_to(60):
            expect(self, InvalidNumber, "number", size, counts.count_right, size, 1, 1)
            expect(self, InvalidNumber, "number", size, counts.count_right, size, -2, -3, passes=-4)
        for marks in wrong_up_to(12):
            expect(self, InvalidNumber, "number", marks, counts.count_right, 1, marks, 1)
            expect(self, InvalidNumber, "number", marks, counts.count_right, 60, marks, 14, passes=9)
            expect(self, InvalidNumber, "number", marks, counts.count_right, 1, 1, marks)
            expect(self, InvalidNumber, "number", marks, counts.count_right, 60, 12, marks, passes=9)

    def test_rows(self):
        for row, index in wrong_rows():
            expect(self, InvalidRow, "index", index, rows.kept_places, row, [1])
            expect(self, InvalidRow, "index", index, rows.kept_places, row, "wrong")
            for call in (rows.are_alike, rows.parting_list):
                expect(self, InvalidRow, "index", index, call, row, [[1]])
                expect(self, InvalidRow, "index", index, call, [[1]], row)
                expect(self, InvalidRow, "index", index, call, [[1]] * 8, row)
                expect(self, InvalidRow, "index", index, call, row, [1, 2])
        for values, index in wrong_values():
            expect(self, InvalidValues, "index", index, rows.kept_places, [[1]] * 8, values)

    def test_exchanged_marks(self):
        for marked, index in wrong_marked():
            expect(self, InvalidMarked, "index", index, rows.may_exchange, marked, [1])
            expect(self, InvalidMarked, "index", index, rows.may_exchange, [], marked)
            expect(self, InvalidMarked, "index", index, rows.may_exchange, marked, "wrong")

    def test_brings(self):
        for brings, key in wrong_brings():
            for function in over_brings():
                expect(self, InvalidBrings, "key", key, function, brings, [1, 2])
                expect(self, InvalidBrings, "key", key, function, brings, "wrong")
            expect(self, InvalidBrings, "key", key, grows.value_at_end, brings, [1] * 121, -1)
            expect(self, InvalidBrings, "key", key, grows.value_behind, brings, [1, None], None)
            expect(self, InvalidBrings, "key", key, grows.visited_behind, brings, None, True)
            expect(self, InvalidBrings, "key", key, grows.count_of, brings, (), "x")

    def test_the_key_itself_is_held(self):
        for key in (None, True, False, "x", 1.0, float("nan"), (1, [2]), b"1", frozenset([1])):
            if not isinstance(key, tuple):
                with self.assertRaises(InvalidBrings) as caught:
                    grows.ring({4: [], key: [1]}, [1])
                self.assertIs(caught.exception.key, key)

    def test_values_beside_brings(self):
        for values, index in wrong_values():
            for function in over_brings():
                expect(self, InvalidValues, "index", index, function, {}, values)
                expect(self, InvalidValues, "index", index, function, {1: [2], 2: [1]}, values)
            for function in over_places() + [grows.count_of]:
                expect(self, InvalidValues, "index", index, function, {1: [1]}, values, None)
            for function in over_doublets():
                expect(self, InvalidValues, "index", index, function, values)

    def test_places(self):
        for place in not_places():
            for function in over_places():
                expect(self, InvalidPlace, "place", place, function, {}, [1], place)
                expect(self, InvalidPlace, "place", place, function, {1: [1]}, [1], place)
                expect(self, InvalidPlace, "place", place, function, {1: [1]}, [], place=place)
        for place in (0, 1, TWENTY):
            for function in (grows.value_at_end, grows.value_behind):
                expect(self, Endless, "ring", [1], function, {1: [2, 1, 1]}, [2, 1], place)

    def test_counted_values(self):
        for value in not_whole():
            expect(self, InvalidValue, "value", value, grows.count_of, {}, [1], value)
            expect(self, InvalidValue, "value", value, grows.count_of, {1: [1]}, [1], value)
            expect(self, InvalidValue, "value", value, grows.count_of, {1: [1]}, [], value=value)
        for value in (0, 1, -1, TWENTY, -TWENTY):
            expect(self, Endless, "ring", [1], grows.count_of, {1: [2, 1, 1]}, [2, 1], value)

    def test_the_largest_brings(self):
        brings = {TWENTY - number: [TWENTY - number - 1] * 12 for number in range(12)}
        brings[TWENTY - 11] = []
        values = [TWENTY - 10] * 120
        self.assertEqual(grows.grown_at_end(brings, values), values + [TWENTY - 11] * 1440)
        self.assertEqual(grows.grown_behind(brings, values), ([TWENTY - 10] + [TWENTY - 11] * 12) * 120)
        self.assertEqual(grows.length_of(brings, [TWENTY]), sum(12 ** steps for steps in range(12)))
        self.assertEqual(text.parse_brings(text.format_brings(brings)), brings)
        self.assertEqual(doublets.after_doublet_pass(values), values[:60])
        self.assertEqual(Walk(values).row, values)

    def test_numbers_of_right_lists(self):
        for size in wrong_up_to(6):
            for other in (0, 4, 5, None, -1):
                expect(self, InvalidNumber, "number", size, doublets.count_right_lists, size, other)
        for other in wrong_up_to(4):
            for size in (0, 6):
                expect(self, InvalidNumber, "number", other, doublets.count_right_lists, size, other)

    def test_written_texts(self):
        for values, index in wrong_values():
            expect(self, InvalidValues, "index", index, text.format_values, values)
        for brings, key in wrong_brings():
            expect(self, InvalidBrings, "key", key, text.format_brings, brings)
        expect(self, InvalidText, "line", 0, text.parse_values, "x")
        expect(self, InvalidText, "line", 1, text.parse_brings, "1:\n1:")

    def test_endless_comes_before_too_many(self):
        brings = {1: [2] * 12, 2: [3] * 12, 3: [4] * 12, 5: [6], 6: [5]}
        for function in (grows.grown_at_end, grows.grown_behind):
            expect(self, TooMany, "count", 120 * 1885, function, brings, [1] * 120)
            expect(self, Endless, "ring", [6, 5], function, brings, [1] * 119 + [6])

    def test_too_many_comes_last(self):
        many = {1: [2] * 12, 2: [3] * 12}
        for function in (grows.grown_at_end, grows.grown_behind):
            expect(self, InvalidValues, "index", 119, function, many, [1] * 119 + [None])
            expect(self, InvalidBrings, "key", "x", function, {**many, "x": []}, [1] * 120)
            expect(self, TooMany, "count", 120 * 157, function, many, [1] * 120)
        expect(self, InvalidValues, "index", 119, asked(counts.each_before), [1, 2], [5] * 119 + [None])
        expect(self, InvalidRow, "index", 7, rows.parting_list, [[1]] * 8, [[1]] * 7 + [[1, 1]])
        expect(self, TooMany, "count", 2 ** 121, asked(counts.each_before), [1], [5] * 120)

    def test_errors_of_a_generator_come_with_its_first_value(self):
        for args, error in ((("x", "x"), InvalidMarked), (([1], "x"), InvalidValues), (([1], [2] * 120), TooMany)):
            made = counts.each_before(*args)
            with self.assertRaises(error):
                next(made)


class TimeTest(unittest.TestCase):

    def check(self, call, *args, **named):
        begun = time.perf_counter()
        call(*args, **named)
        self.assertLess(time.perf_counter() - begun, 5)

    def test_passes(self):
        marked = [TWENTY - number for number in range(12)]
        for values in (marked * 10, [5] * 120, ([5] + marked[:2]) * 40):
            for function in over_drops():
                self.check(function, marked, values)
            self.check(drops.after_passes, marked, values, passes=8)
            self.check(counts.count_before, marked, values, passes=4)
            self.check(rows.kept_places, [marked] * 8, values)

    def test_counts(self):
        self.check(counts.count_right, 60, 12, 12, passes=8)
        for marked, values in (([1], [2] * 11 + [1] * 109), ([1], [1] * 109 + [2] * 11), ([1, 2], [1] * 9 + [3])):
            self.check(asked(counts.each_before), marked, values)

    def test_parting_lists(self):
        rows_of = [[TWENTY - (number * 12 + at) for at in range(12)] for number in range(8)]
        mixed = [[number * 7 + at * 5 for at in range(12)] for number in range(8)]
        for row in (rows_of, mixed):
            self.check(rows.parting_list, row, [])
            self.check(rows.parting_list, row[:4], row[:4])
            self.check(rows.parting_list, row[:4], row[:3] + row[7:])
            self.check(rows.parting_list, row[:4], row[:3])
            self.check(rows.parting_list, [row[0]] * 4, [row[0]] * 3 + [row[1]])
            self.check(rows.are_alike, row, row)


    def test_growing_loops(self):
        chain = {TWENTY - number: [TWENTY - number - 1] * 12 for number in range(12)}
        turns = {**chain, TWENTY - 11: [0] * 11 + [TWENTY]}
        for brings in (chain, turns, dict(reversed(list(chain.items()))), {1: [0] * 12}, {1: [1] * 12}, {}):
            for values in ([TWENTY] * 120, [1] * 120, [TWENTY - 11] * 120, [0] * 119 + [TWENTY]):
                for function in over_brings():
                    self.check_refused(function, brings, values)
                for place in (TWENTY, 10 ** 15, 10 ** 12, 4999):
                    for function in over_places():
                        self.check_refused(function, brings, values, place)

    def check_refused(self, call, *args):
        """A call that may raise TooMany or Endless ends soon, too."""
        begun = time.perf_counter()
        try:
            call(*args)
        except (Endless, TooMany):
            pass
        self.assertLess(time.perf_counter() - begun, 5)

    def test_lists_of_five_thousand(self):
        brings = {1: [0] * 12, 2: [1] * 12}
        values = [2] * 31 + [1] * 10 + [0] * 3
        self.check(grows.grown_at_end, brings, values)
        self.check(grows.grown_behind, brings, values)

    def test_doublets(self):
        for values in ([7] * 120, list(range(120)), [1, 2] * 60, [number // 4 for number in range(120)]):
            for function in over_doublets():
                self.check(function, values)
        self.check(doublets.count_right_lists, 6, 4)

    def test_walks_and_texts(self):
        walk = Walk([1] * 120)

        def lead():
            for number in range(5000):
                walk.put_next(number)
                walk.visit()
            for _ in range(10000):
                walk.undo()
        self.check(lead)
        self.check(text.parse_values, text.format_values([-TWENTY] * 120))
        brings = {TWENTY - number: [-TWENTY] * 12 for number in range(12)}
        self.check(text.parse_brings, text.format_brings(brings))


if __name__ == "__main__":
    unittest.main()
