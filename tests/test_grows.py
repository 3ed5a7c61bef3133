"""Points 15 to 19: loops that put values in."""

import random
import unittest

from midwalk.errors import Endless, TooMany
from midwalk.grows import (count_of, ends_ahead, grown_at_end, grown_behind, length_of, ring, value_at_end,
                           value_behind, visited_behind)
from tests.common import TWENTY, expect
from tests.growing import (POOL, counts, drawn_cases, ending_dict, ends_ahead_after, far_at_end, far_behind, lasts,
                           lengths, plain_at_end, plain_behind, plain_ring, plain_visits, some_edges)

# Each key brings twelve values; the first of them leads over eleven others to millions of millions of values.
LONG_CHAIN = {number: [number - 1] * 12 for number in range(1, 13)}
MIXED_CHAIN = {number: [100, number - 1, -number, *[number - 1] * 8, 200] for number in range(12, 0, -1)}
FIBONACCI = {number: [number - 1, 50, max(number - 2, 0)] * 4 for number in (3, 12, 7, 1, 5, 9, 11, 2, 4, 8, 10, 6)}


def cases(many, seed):
    yield from some_edges()
    yield from drawn_cases(many, seed)


def ending_cases(many, seed):
    """Those of the cases in which the loops end."""
    for brings, values in cases(many, seed):
        if not any(lasts(brings, number) for number in values):
            yield brings, values


def endless_cases(many, seed):
    """Those of the cases in which the loops do not end."""
    for brings, values in cases(many, seed):
        if any(lasts(brings, number) for number in values):
            yield brings, values


class EndsTest(unittest.TestCase):

    def test_ring_against_the_heirs(self):
        unreached = 0
        for brings, values in cases(1500, 1):
            want = plain_ring(brings, values)
            self.assertEqual(ring(brings, values), want, (brings, values))
            unreached += want is None and any(lasts(brings, number) for number in brings)
        self.assertGreater(unreached, 100)

    def test_ring_is_one(self):
        longest = 0
        for brings, values in endless_cases(1500, 2):
            found = ring(brings, values)
            self.assertEqual(len(set(found)), len(found))
            for number, after in zip(found, found[1:] + found[:1]):
                self.assertIn(after, brings[number])
            longest = max(longest, len(found))
        self.assertGreaterEqual(longest, 3)

    def test_ring_begins_with_what_is_visited_first(self):
        seen = 0
        for brings, values in endless_cases(1500, 3):
            found = ring(brings, values)
            visits = [number for number in plain_visits(brings, values, 2000) if number in found]
            if visits:
                seen += 1
                self.assertEqual(visits[0], found[0])
        self.assertGreater(seen, 100)

    def test_ring_is_none_if_and_only_if_the_loops_end(self):
        for brings, values in cases(400, 4):
            found = ring(brings, values)
            ended = plain_at_end(brings, values, 5000)
            if ended is not None:
                self.assertIsNone(found)
            elif found is None:
                self.assertGreater(length_of(brings, values), 5000)

    def test_rings_that_are_not_reached(self):
        brings = {1: [2], 2: [1], 3: [4, 4], 5: [5]}
        self.assertIsNone(ring(brings, [3, 6]))
        self.assertEqual(length_of(brings, [3, 6]), 4)
        self.assertEqual(grown_behind(brings, [3, 6]), [3, 4, 4, 6])
        self.assertEqual(grown_at_end(brings, [3, 6]), [3, 6, 4, 4])
        self.assertEqual([visited_behind(brings, [3, 6], place) for place in range(5)], [3, 4, 4, 6, None])
        self.assertEqual(count_of(brings, [3, 6], 4), 2)
        self.assertEqual(count_of(brings, [3, 6], 1), 0)
        self.assertIsNone(ring(brings, []))

    def test_which_ring_if_there_are_several(self):
        brings = {1: [2], 2: [1], 3: [4], 4: [5], 5: [4], 6: [9, 3, 1], 7: [9, 1, 3], 8: [8]}
        self.assertEqual(ring(brings, [6]), [4, 5])
        self.assertEqual(ring(brings, [7]), [1, 2])
        self.assertEqual(ring(brings, [9, 2, 8]), [2, 1])
        self.assertEqual(ring(brings, [8, 2]), [8])
        self.assertEqual(ring(brings, [5, 3]), [5, 4])
        # A number in two rings: the heir is the first lasting one that it brings.
        self.assertEqual(ring({1: [0, 2, 3], 2: [1], 3: [1]}, [3]), [1, 2])
        self.assertEqual(ring({1: [0, 3, 2], 2: [1], 3: [1]}, [2]), [1, 3])
        self.assertEqual(ring({1: [2, 1], 2: [3]}, [1]), [1])
        self.assertEqual(ring({1: [2, 1], 2: [1]}, [1]), [1, 2])

    def test_many_steps_into_the_ring(self):
        steps = {number: [70, number + 1, 71] for number in range(11)}
        steps[11] = [70, 11]
        self.assertEqual(ring(steps, [70, 0]), [11])
        steps[11] = [72, 9, 0]
        self.assertEqual(ring(steps, [70, 0]), [9, 10, 11])
        steps[11] = [0]
        self.assertEqual(ring(steps, [4, 0]), [4, 5, 6, 7, 8, 9, 10, 11, 0, 1, 2, 3])

    def test_ends_ahead_against_the_loop(self):
        endings = [0, 0]
        for brings, values in cases(600, 5):
            want = ends_ahead_after(brings, values, 400)
            self.assertIs(ends_ahead(brings, values), want)
            endings[want] += 1
        self.assertGreater(min(endings), 50)

    def test_ends_ahead_with_empty_lists(self):
        self.assertIs(ends_ahead({1: [], 2: [3]}, [1, 3, 1]), True)
        self.assertIs(ends_ahead({1: [], 2: [3]}, [1, 2]), False)
        self.assertIs(ends_ahead({1: [1]}, [2]), True)
        self.assertIs(ends_ahead({1: [1]}, [1]), False)
        self.assertIs(ends_ahead({}, []), True)
        self.assertIs(ends_ahead({0: [0]}, []), True)
        self.assertIs(ends_ahead({5: [0]}, [0] * 119 + [5]), False)


class ListsTest(unittest.TestCase):

    def test_lists_against_the_loops(self):
        told = {"list": 0, "many": 0, "endless": 0}
        for brings, values in cases(1200, 6):
            if any(lasts(brings, number) for number in values):
                told["endless"] += 1
                for call in (length_of, grown_at_end, grown_behind):
                    expect(self, Endless, "ring", plain_ring(brings, values), call, brings, values)
                continue
            length = sum(map(lengths(brings), values))
            self.assertEqual(length_of(brings, values), length)
            if length > 5000:
                told["many"] += 1
                for call in (grown_at_end, grown_behind):
                    expect(self, TooMany, "count", length, call, brings, values)
            else:
                told["list"] += 1
                at_end, behind = grown_at_end(brings, values), grown_behind(brings, values)
                self.assertEqual(at_end, plain_at_end(brings, values, 5000))
                self.assertEqual(behind, plain_behind(brings, values, 5000))
                self.assertEqual(behind, plain_visits(brings, values, 6000))
                self.assertEqual((len(at_end), sorted(at_end)), (length, sorted(behind)))
        self.assertGreater(min(told.values()), 50, told)

    def test_the_order_of_the_keys_does_not_matter(self):
        draw = random.Random(7)
        for brings, values in cases(200, 8):
            pairs = list(brings.items())
            draw.shuffle(pairs)
            other = dict(pairs)
            self.assertEqual(ring(brings, values), ring(other, values))
            for place in (0, 1, 7, 100, 10 ** 9, TWENTY):
                self.assertEqual(visited_behind(brings, values, place), visited_behind(other, values, place))
            if ring(brings, values) is None:
                self.assertEqual(length_of(brings, values), length_of(other, values))
                for place in (0, 1, 7, 100, 10 ** 9, TWENTY):
                    self.assertEqual(value_at_end(brings, values, place), value_at_end(other, values, place))
                    self.assertEqual(value_behind(brings, values, place), value_behind(other, values, place))

    def test_five_thousand_and_one_more(self):
        brings = {1: [0] * 12, 2: [1] * 12}
        values = [2] * 31 + [1] * 10 + [0] * 3
        for call, plain in ((grown_at_end, plain_at_end), (grown_behind, plain_behind)):
            self.assertEqual(call(brings, values), plain(brings, values, 5000))
            self.assertEqual(len(call(brings, values)), 5000)
            for more in (1, 2, 13, 50):
                expect(self, TooMany, "count", 5000 + more, call, brings, values + [0] * more)
                expect(self, TooMany, "count", 5000 + more, call, brings, [0] * more + values)
            expect(self, TooMany, "count", length_of(LONG_CHAIN, [12] * 120), call, LONG_CHAIN, [12] * 120)
        self.assertEqual(length_of(brings, values + [0]), 5001)

    def test_lengths_that_are_known(self):
        self.assertEqual(length_of(LONG_CHAIN, [12]), sum(12 ** steps for steps in range(13)))
        self.assertEqual(length_of(LONG_CHAIN, [12] * 120), 120 * sum(12 ** steps for steps in range(13)))
        self.assertEqual(length_of({1: [7] * 12}, [1] * 120), 120 * 13)
        self.assertEqual(length_of({1: []}, [1] * 120), 120)
        self.assertEqual(length_of({}, []), 0)


class PlacesTest(unittest.TestCase):

    def test_all_places_of_short_lists(self):
        many = 0
        for brings, values in ending_cases(400, 9):
            length = length_of(brings, values)
            if length <= 200:
                many += 1
                at_end, behind = plain_at_end(brings, values, 200), plain_behind(brings, values, 200)
                places = range(length)
                self.assertEqual([value_at_end(brings, values, place) for place in places], at_end)
                self.assertEqual([value_behind(brings, values, place) for place in places], behind)
                self.assertEqual([visited_behind(brings, values, place) for place in places], behind)
                for place in (length, length + 1, 10 * length + 5, TWENTY):
                    for call in (value_at_end, value_behind, visited_behind):
                        self.assertIsNone(call(brings, values, place))
        self.assertGreater(many, 100)

    def test_some_places_of_longer_lists(self):
        draw = random.Random(10)
        many = 0
        for brings, values in ending_cases(250, 11):
            length = length_of(brings, values)
            if 400 < length <= 100000:
                many += 1
                at_end, behind = plain_at_end(brings, values, length), plain_visits(brings, values, length + 1)
                self.assertEqual(len(behind), length)
                for place in [0, length - 1] + [draw.randrange(length) for _ in range(30)]:
                    self.assertEqual(value_at_end(brings, values, place), at_end[place])
                    self.assertEqual(value_behind(brings, values, place), behind[place])
                    self.assertEqual(visited_behind(brings, values, place), behind[place])
        self.assertGreater(many, 20)

    def check_far(self, brings, values, draw):
        length = length_of(brings, values)
        places = [0, 1, len(values) - 1, len(values), length // 2, length - 1]
        places += [draw.randrange(length) for _ in range(20)] + [draw.randrange(min(length, 10 ** 6)) for _ in range(5)]
        for place in places:
            want = far_behind(brings, values, place)
            self.assertEqual(value_behind(brings, values, place), want)
            self.assertEqual(visited_behind(brings, values, place), want)
            self.assertEqual(value_at_end(brings, values, place), far_at_end(brings, values, place))
            self.assertEqual(want is None, place >= length)
        for place in (length, length + 1, TWENTY - 1, TWENTY):
            for call in (value_at_end, value_behind, visited_behind):
                self.assertIsNone(call(brings, values, place))

    def test_far_places(self):
        draw = random.Random(12)
        for brings in (LONG_CHAIN, MIXED_CHAIN, FIBONACCI):
            self.assertGreater(length_of(brings, [12]), 10 ** 8)
            for values in ([12], [0, 12], [3, 12, 100, 11], [12] * 120, [100] * 119 + [12], list(range(13))):
                self.check_far(brings, values, draw)
        for _ in range(60):
            brings = ending_dict(draw)
            values = draw.choices(POOL, k=draw.randint(2, 20))
            self.check_far(brings, values, draw)

    def test_far_places_that_are_known(self):
        # Behind: down to 0 at once, then always so many values 0 before the next one that is greater.
        self.assertEqual([value_behind(LONG_CHAIN, [12], place) for place in range(26)],
                         list(range(12, -1, -1)) + [0] * 11 + [1, 0])
        below = sum(12 ** steps for steps in range(12))
        for number in range(12):
            self.assertEqual(value_behind(LONG_CHAIN, [12], 1 + number * below), 11)
            self.assertEqual(value_behind(LONG_CHAIN, [12], (number + 1) * below), 0)
        # At the end: all of a level are equal, and each has twelve times as many as the one before.
        begin = 0
        for steps in range(13):
            behind = begin + 12 ** steps
            for place in (begin, (begin + behind) // 2, behind - 1):
                self.assertEqual(value_at_end(LONG_CHAIN, [12], place), 12 - steps)
            begin = behind
        self.assertIsNone(value_at_end(LONG_CHAIN, [12], begin))

    def test_no_place(self):
        for call in (value_at_end, value_behind, visited_behind):
            self.assertIsNone(call({}, [], 0))
            self.assertIsNone(call({1: [1]}, [], 0))
            self.assertIsNone(call({}, [5], 1))
            self.assertEqual(call({}, [5], 0), 5)
            self.assertEqual(call({1: []}, [1], 0), 1)
            self.assertIsNone(call({1: []}, [1], 1))

    def test_places_of_endless_loops(self):
        for brings, values in endless_cases(300, 13):
            for place in (0, 1, TWENTY):
                for call in (value_at_end, value_behind):
                    expect(self, Endless, "ring", plain_ring(brings, values), call, brings, values, place)


class VisitsTest(unittest.TestCase):

    def test_visits_against_the_loop(self):
        endless = 0
        for brings, values in cases(700, 14):
            visits = plain_visits(brings, values, 300)
            found = [visited_behind(brings, values, place) for place in range(len(visits))]
            self.assertEqual(found, visits, (brings, values))
            if len(visits) < 300:
                self.assertIsNone(visited_behind(brings, values, len(visits)))
                self.assertIsNone(visited_behind(brings, values, TWENTY))
            endless += len(visits) == 300 and ring(brings, values) is not None
        self.assertGreater(endless, 100)

    def turn_of(self, brings, visits, found):
        """The length of a turn and where the first turn begins, if the visits have three turns."""
        heads = [place for place, number in enumerate(visits) if number == found[0]]
        return heads[0], heads[1] - heads[0]

    def test_far_turns_of_the_ring(self):
        draw = random.Random(15)
        many = 0
        for brings, values in endless_cases(1500, 16):
            found = ring(brings, values)
            visits = plain_visits(brings, values, 3000)
            if visits.count(found[0]) < 3:
                continue
            many += 1
            begin, turn = self.turn_of(brings, visits, found)
            self.assertEqual([number for number in visits[begin:begin + turn] if number in found], found)
            for place in [TWENTY, TWENTY - 1, 10 ** 15] + [draw.randrange(10 ** 20) for _ in range(10)]:
                want = visits[begin + (place - begin) % turn]
                self.assertEqual(visited_behind(brings, values, place), want)
        self.assertGreater(many, 100)

    def test_a_turn_of_millions_of_millions(self):
        brings = {**{number: LONG_CHAIN[number] for number in range(1, 10)}, 20: [9, 21, 5], 21: [7, 0, 22, 9], 22: [20]}
        length = lengths(brings)
        before = length(8) + 1
        turn = 1 + length(9) + 1 + length(7) + 1 + 1
        values = [8, 30, 20, 9, 9]
        for times in (0, 1, 2, 1000, 10 ** 19 // turn):
            begin = before + times * turn
            for place, want in ((0, 20), (1, 9), (2, 8), (length(9), 0), (length(9) + 1, 21), (length(9) + 2, 7),
                                (length(9) + length(7) + 1, 0), (turn - 2, 0), (turn - 1, 22), (turn, 20)):
                self.assertEqual(visited_behind(brings, values, begin + place), want, (times, place))
        for place in range(0, before - 1, before // 100):
            self.assertEqual(visited_behind(brings, values, place), far_behind(brings, [8], place))
        self.assertEqual(visited_behind(brings, values, before - 1), 30)
        self.assertEqual(ring(brings, values), [20, 21, 22])
        self.assertEqual(ring(brings, [22, 21]), [22, 20, 21])

    def test_what_stood_behind_is_never_visited(self):
        brings = {1: [2, 1, 4]}
        self.assertNotIn(4, [visited_behind(brings, [3, 1, 5], place) for place in range(300)])
        self.assertNotIn(5, [visited_behind(brings, [3, 1, 5], place) for place in range(300)])
        self.assertEqual(visited_behind(brings, [1, 1], TWENTY), 2)
        self.assertEqual(visited_behind(brings, [1, 1], TWENTY - 1), 1)
        self.assertEqual(visited_behind({1: [1, 2]}, [1, 3], TWENTY), 1)

    def test_never_endless(self):
        for brings, values in endless_cases(300, 17):
            self.assertIsNotNone(visited_behind(brings, values, TWENTY))


class CountsTest(unittest.TestCase):

    def test_counts_against_counting(self):
        for brings, values in ending_cases(500, 18):
            grown = plain_at_end(brings, values, 5000)
            for value in POOL + [55]:
                self.assertEqual(count_of(brings, values, value), sum(map(counts(brings, value), values)))
                if grown is not None:
                    self.assertEqual(count_of(brings, values, value), grown.count(value))

    def test_all_counts_come_to_the_length(self):
        for brings, values in ending_cases(300, 19):
            self.assertEqual(sum(count_of(brings, values, value) for value in POOL), length_of(brings, values))
        for brings in (LONG_CHAIN, MIXED_CHAIN, FIBONACCI):
            found = [count_of(brings, [12] * 120, value) for value in range(-12, 201)]
            self.assertEqual(sum(found), length_of(brings, [12] * 120))

    def test_counts_that_are_known(self):
        for number in range(13):
            self.assertEqual(count_of(LONG_CHAIN, [12] * 120, number), 120 * 12 ** (12 - number))
        for value in (13, -1, TWENTY, -TWENTY):
            self.assertEqual(count_of(LONG_CHAIN, [12], value), 0)
        self.assertEqual(count_of({}, [], 0), 0)
        self.assertEqual(count_of({0: [0]}, [], 0), 0)
        self.assertEqual(count_of({5: [4]}, [3], 4), 0)
        self.assertEqual(count_of({5: [5], 4: [3]}, [4, 3], 5), 0)

    def test_endless_counts(self):
        for brings, values in endless_cases(300, 20):
            for value in (55, values[0]):
                expect(self, Endless, "ring", plain_ring(brings, values), count_of, brings, values, value)


if __name__ == "__main__":
    unittest.main()
