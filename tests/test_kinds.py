"""Points 5 and 21: the walk object."""

import random
import unittest

from midwalk.errors import Ended, InvalidValue, InvalidValues, LackingValue, NothingToUndo, NothingVisited
from midwalk.kinds import Walk
from tests.common import TWENTY, expect, not_whole, plain_pass, some_cases, wrong_values

POOL = [TWENTY, -TWENTY, -1, 0, 1, 2]


class Led:
    """A list and a place led by hand: each deed returns what it returns, or the class of its error."""

    def __init__(self, values):
        self.now = (tuple(values), 0, ())
        self.before = []

    def change(self, row, spot, visited):
        self.before.append(self.now)
        self.now = (tuple(row), spot, tuple(visited))

    def visit(self):
        row, spot, visited = self.now
        if spot >= len(row):
            return Ended
        self.change(row, spot + 1, visited + (row[spot],))
        return row[spot]

    def drop(self):
        row, spot, visited = self.now
        if spot == 0 or len(row) < spot:
            return NothingVisited
        self.change(row[:spot - 1] + row[spot:], spot, visited)
        return row[spot - 1]

    def drop_first(self, value):
        row, spot, visited = self.now
        for place, held in enumerate(row):
            if held == value:
                self.change(row[:place] + row[place + 1:], spot, visited)
                return place
        return LackingValue

    def put_last(self, value):
        row, spot, visited = self.now
        self.change(row + (value,), spot, visited)

    def put_next(self, value):
        row, spot, visited = self.now
        self.change(row[:spot] + (value,) + row[spot:], spot, visited)

    def undo(self):
        if not self.before:
            return NothingToUndo
        self.now = self.before.pop()
        return None


def state(walk):
    """All that the properties of a walk tell."""
    return walk.row, walk.spot, walk.visited


def asked(walk, deed, args):
    """What a deed returns, or the class of the error that it raises."""
    try:
        return getattr(walk, deed)(*args)
    except (Ended, NothingVisited, LackingValue, NothingToUndo) as error:
        return error.__class__


def drawn_deeds(draw, many):
    """Deeds with their arguments, some of them more often than others."""
    names = ["visit", "drop", "drop_first", "put_last", "put_next", "undo"]
    weights = [draw.choice([1, 2, 6]) for _ in names]
    for name in draw.choices(names, weights, k=many):
        yield name, ([draw.choice(POOL)] if name in ("drop_first", "put_last", "put_next") else [])


class LedTest(unittest.TestCase):

    def same(self, walk, led):
        row, spot, visited = led.now
        self.assertEqual(state(walk), (list(row), spot, list(visited)))

    def test_against_a_list_led_by_hand(self):
        draw = random.Random(1)
        refused = {}
        for _ in range(300):
            values = draw.choices(POOL, k=draw.choice([0, 1, 3, 10, 120]))
            walk, led = Walk(values), Led(values)
            self.same(walk, led)
            for deed, args in drawn_deeds(draw, draw.choice([10, 60, 300])):
                want = getattr(led, deed)(*args)
                found = asked(walk, deed, args)
                self.assertIs(type(found), type(want), deed)
                self.assertEqual(found, want, deed)
                self.same(walk, led)
                if isinstance(want, type):
                    refused[want] = refused.get(want, 0) + 1
        self.assertEqual(set(refused), {Ended, NothingVisited, LackingValue, NothingToUndo})
        self.assertGreater(min(refused.values()), 50)

    def test_undo_back_to_the_beginning(self):
        draw = random.Random(2)
        for _ in range(100):
            values = draw.choices(POOL, k=draw.choice([0, 1, 3, 10, 120]))
            walk, states = Walk(values), []
            for deed, args in drawn_deeds(draw, 200):
                before = state(walk)
                if deed != "undo" and not isinstance(asked(walk, deed, args), type):
                    states.append(before)
            while states:
                self.assertIsNone(walk.undo())
                self.assertEqual(state(walk), states.pop())
            self.assertEqual(state(walk), (values, 0, []))
            with self.assertRaises(NothingToUndo):
                walk.undo()
            self.assertEqual(state(walk), (values, 0, []))

    def test_a_long_walk(self):
        walk = Walk([0])
        for number in range(3000):
            self.assertIsNone(walk.put_last(number))
            self.assertIsNone(walk.put_next(-number))
            walk.visit()
        self.assertEqual(len(walk.row), 6001)
        for _ in range(9000):
            walk.undo()
        self.assertEqual(state(walk), ([0], 0, []))

    def test_a_dropping_pass(self):
        for marked, values in some_cases(longest=4, many=50):
            walk = Walk(values)
            while walk.spot < len(walk.row):
                if walk.visit() in marked:
                    walk.drop()
            self.assertEqual(walk.row, plain_pass(marked, values))
            self.assertLessEqual(set(walk.visited), set(values))

    def test_a_loop_as_a_for_statement_goes(self):
        for values in ([], [3], [1, 3, 2], [2, 2, 5, 3]):
            rest, visited = list(values), []
            for value in rest:
                visited.append(value)
                if len(visited) < 20 and value > 1:
                    rest.insert(len(visited), value - 1)
                    rest.append(value - 2)
            walk = Walk(values)
            while walk.spot < len(walk.row):
                value = walk.visit()
                if len(walk.visited) < 20 and value > 1:
                    walk.put_next(value - 1)
                    walk.put_last(value - 2)
            self.assertEqual((walk.row, walk.visited), (rest, visited))
            self.assertEqual(walk.spot, len(rest))
            with self.assertRaises(Ended):
                walk.visit()


class DeedsTest(unittest.TestCase):

    def refuses(self, walk, error, deed, *args):
        """A deed raises just this error and changes nothing; what is taken back after it is the deed before it."""
        before = state(walk)
        with self.assertRaises(error) as caught:
            getattr(walk, deed)(*args)
        self.assertIs(caught.exception.__class__, error)
        self.assertEqual(state(walk), before)
        return caught.exception

    def test_a_new_walk(self):
        for values in ([], [5], [TWENTY, -TWENTY, 5], [1] * 120):
            walk = Walk(values)
            self.assertEqual(state(walk), (values, 0, []))
            self.refuses(walk, NothingToUndo, "undo")
            self.refuses(walk, NothingVisited, "drop")

    def test_visit(self):
        walk = Walk([7, 8])
        self.assertEqual(walk.visit(), 7)
        self.assertEqual(state(walk), ([7, 8], 1, [7]))
        self.assertEqual(walk.visit(), 8)
        self.assertEqual(state(walk), ([7, 8], 2, [7, 8]))
        self.refuses(walk, Ended, "visit")
        self.refuses(Walk([]), Ended, "visit")
        walk.put_last(9)
        self.assertEqual(walk.visit(), 9)
        walk.drop_first(7)
        walk.drop_first(8)
        self.assertEqual(state(walk), ([9], 3, [7, 8, 9]))
        self.refuses(walk, Ended, "visit")

    def test_drop(self):
        walk = Walk([7, 8, 9])
        self.refuses(walk, NothingVisited, "drop")
        walk.visit()
        self.assertEqual(walk.drop(), 7)
        self.assertEqual(state(walk), ([8, 9], 1, [7]))
        # This one was stepped over, not visited.
        self.assertEqual(walk.drop(), 8)
        self.assertEqual(state(walk), ([9], 1, [7]))
        self.assertEqual(walk.drop(), 9)
        self.refuses(walk, NothingVisited, "drop")
        walk.put_last(5)
        self.assertEqual(walk.drop(), 5)

    def test_drop_where_the_list_is_shorter_than_the_place(self):
        walk = Walk([7, 8, 9])
        for _ in range(3):
            walk.visit()
        walk.drop_first(8)
        self.refuses(walk, NothingVisited, "drop")
        self.assertEqual(state(walk), ([7, 9], 3, [7, 8, 9]))
        walk.put_next(4)
        self.assertEqual(walk.row, [7, 9, 4])
        self.assertEqual(walk.drop(), 4)
        walk.undo()
        self.assertEqual(walk.row, [7, 9, 4])

    def test_drop_at_a_place_that_was_stepped_over(self):
        walk = Walk([7, 8, 9, 7])
        walk.visit()
        walk.visit()
        self.assertEqual(walk.drop_first(7), 0)
        self.assertEqual(state(walk), ([8, 9, 7], 2, [7, 8]))
        self.assertEqual(walk.drop(), 9)
        self.assertEqual(state(walk), ([8, 7], 2, [7, 8]))
        self.assertEqual(walk.drop(), 7)
        self.refuses(walk, NothingVisited, "drop")
        for row in ([8, 7], [8, 9, 7], [7, 8, 9, 7]):
            walk.undo()
            self.assertEqual(walk.row, row)
        self.assertEqual(walk.spot, 2)

    def test_drop_first(self):
        walk = Walk([7, 8, 7, 9])
        walk.visit()
        self.assertEqual(walk.drop_first(9), 3)
        self.assertEqual(walk.drop_first(7), 0)
        self.assertEqual(state(walk), ([8, 7], 1, [7]))
        self.assertEqual(walk.drop_first(7), 1)
        self.assertEqual(self.refuses(walk, LackingValue, "drop_first", 7).value, 7)
        self.assertEqual(self.refuses(walk, LackingValue, "drop_first", TWENTY).value, TWENTY)
        self.assertEqual(walk.visited, [7])
        for row in ([8, 7], [7, 8, 7], [7, 8, 7, 9]):
            walk.undo()
            self.assertEqual(walk.row, row)

    def test_put_next(self):
        walk = Walk([7, 8])
        self.assertIsNone(walk.put_next(6))
        self.assertEqual(state(walk), ([6, 7, 8], 0, []))
        self.assertEqual(walk.visit(), 6)
        walk.put_next(5)
        self.assertEqual(state(walk), ([6, 5, 7, 8], 1, [6]))
        walk.visit()
        walk.drop_first(5)
        walk.drop_first(6)
        walk.drop_first(7)
        self.assertEqual(state(walk), ([8], 2, [6, 5]))
        walk.put_next(1)
        self.assertEqual(walk.row, [8, 1])
        walk.put_next(2)
        self.assertEqual(walk.row, [8, 1, 2])
        walk.put_next(3)
        self.assertEqual(walk.row, [8, 1, 3, 2])
        for row in ([8, 1, 2], [8, 1], [8]):
            walk.undo()
            self.assertEqual(walk.row, row)

    def test_put_last(self):
        walk = Walk([])
        self.assertIsNone(walk.put_last(6))
        walk.visit()
        self.assertIsNone(walk.put_last(-TWENTY))
        self.assertEqual(state(walk), ([6, -TWENTY], 1, [6]))

    def test_put_beyond_what_may_be_passed_in(self):
        walk = Walk([1] * 120)
        for number in range(200):
            walk.put_last(number)
        self.assertEqual(walk.row, [1] * 120 + list(range(200)))
        with self.assertRaises(InvalidValues):
            Walk(walk.row)
        self.assertEqual(Walk(walk.row[:120]).row, [1] * 120)

    def test_undo_of_each_deed(self):
        walk = Walk([7, 8])
        walk.visit()
        for deed, args in (("visit", []), ("drop", []), ("drop_first", [8]), ("put_last", [1]), ("put_next", [2])):
            before = state(walk)
            getattr(walk, deed)(*args)
            self.assertNotEqual(state(walk), before)
            self.assertIsNone(walk.undo())
            self.assertEqual(state(walk), before)
        walk.undo()
        self.refuses(walk, NothingToUndo, "undo")
        self.assertEqual(walk.visit(), 7)

    def test_undo_passes_over_refused_deeds(self):
        walk = Walk([7])
        walk.put_last(8)
        for deed, args, error in (("drop", [], NothingVisited), ("drop_first", [5], LackingValue),
                                  ("drop_first", ["x"], InvalidValue), ("put_last", [None], InvalidValue),
                                  ("put_next", [True], InvalidValue)):
            self.refuses(walk, error, deed, *args)
        walk.undo()
        self.assertEqual(state(walk), ([7], 0, []))
        self.refuses(walk, NothingToUndo, "undo")


class WholeTest(unittest.TestCase):

    def test_values_that_are_wrong(self):
        for values, index in wrong_values():
            expect(self, InvalidValues, "index", index, Walk, values)
            expect(self, InvalidValues, "index", index, Walk, values=values)

    def test_a_value_that_is_none(self):
        walk = Walk([0, 1])
        walk.visit()
        for thing in not_whole():
            for deed in ("drop_first", "put_last", "put_next"):
                expect(self, InvalidValue, "value", thing, getattr(walk, deed), thing)
                expect(self, InvalidValue, "value", thing, getattr(walk, deed), value=thing)
                with self.assertRaises(InvalidValue) as caught:
                    getattr(walk, deed)(thing)
                self.assertIs(caught.exception.value, thing)
        self.assertEqual(state(walk), ([0, 1], 1, [0]))
        walk.undo()
        self.assertEqual(state(walk), ([0, 1], 0, []))

    def test_by_name(self):
        walk = Walk(values=[7])
        walk.put_last(value=8)
        walk.put_next(value=9)
        self.assertEqual(walk.row, [9, 7, 8])
        self.assertEqual(walk.drop_first(value=7), 1)
        expect(self, LackingValue, "value", 7, walk.drop_first, value=7)

    def test_what_was_passed_and_what_is_read_stand_apart(self):
        values = [7, 8, 9]
        walk, other = Walk(values), Walk(values)
        walk.visit()
        walk.drop()
        self.assertEqual(values, [7, 8, 9])
        self.assertEqual(state(other), ([7, 8, 9], 0, []))
        values.append(10)
        values[1] = 5
        self.assertEqual(state(walk), ([8, 9], 1, [7]))
        self.assertEqual(state(other), ([7, 8, 9], 0, []))
        walk.row.append(1)
        walk.row.clear()
        walk.visited.append(1)
        walk.visited.clear()
        self.assertEqual(state(walk), ([8, 9], 1, [7]))
        row, visited = walk.row, walk.visited
        self.assertEqual(walk.visit(), 9)
        self.assertEqual((row, visited), ([8, 9], [7]))
        self.assertIsNot(walk.row, walk.row)
        self.assertIsNot(walk.visited, walk.visited)
        walk.undo()
        walk.undo()
        walk.undo()
        self.assertEqual(state(walk), ([7, 8, 9], 0, []))

    def test_the_properties_are_read_only(self):
        walk = Walk([7])
        for name in ("row", "spot", "visited"):
            self.assertIsInstance(vars(Walk)[name], property)
            with self.assertRaises(AttributeError):
                setattr(walk, name, [])
        self.assertEqual(state(walk), ([7], 0, []))


if __name__ == "__main__":
    unittest.main()
