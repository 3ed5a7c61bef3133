"""What several tests share: lists to go through, plain loops to compare with, and calls that fail."""

import random
from itertools import product

TWENTY = 10 ** 20 - 1


def short_lists(numbers, longest):
    """All lists over these numbers, shortest first, then ascending."""
    for size in range(longest + 1):
        for row in product(sorted(numbers), repeat=size):
            yield list(row)


def mark_lists(numbers):
    """All lists of marks over these numbers, in one order each."""
    for chosen in product([False, True], repeat=len(numbers)):
        yield [number for number, taken in zip(numbers, chosen) if taken]


def long_lists(many, seed):
    """Marks and values, drawn the same way each time, with long runs among them."""
    draw = random.Random(seed)
    pool = [TWENTY, -TWENTY, -1, 0, 1, 2, 3]
    for _ in range(many):
        numbers = draw.sample(pool, draw.randint(1, len(pool)))
        marked = draw.sample(numbers, draw.randint(0, len(numbers)))
        weights = [draw.choice([1, 1, 5, 30]) for _ in numbers]
        yield marked, draw.choices(numbers, weights, k=draw.randint(0, 120))


def some_cases(numbers=(1, 2, 3), longest=5, many=300, seed=1):
    """Marks and values: all short lists, some edges, and long drawn ones."""
    for marked in mark_lists(numbers):
        for values in short_lists(numbers, longest):
            yield marked, values
    for size in (119, 120):
        yield [], [1] * size
        yield [1], [1] * size
        yield [2], [1] * size
        yield [1, 2], [1, 2] * (size // 2)
        yield [-TWENTY, TWENTY], [TWENTY, -TWENTY, TWENTY] * (size // 3)
    yield list(range(12)), [number % 13 for number in range(120)]
    yield from long_lists(many, seed)


def plain_pass(marked, values):
    """A dropping pass, by a for statement over a copy."""
    rest = list(values)
    place = 0
    for value in rest:
        place += 1
        if value in marked:
            del rest[place - 1]
    return rest


def plain_row(row, values):
    """The places that a row keeps, by for statements over pairs of a place and a value."""
    pairs = list(enumerate(values))
    for marked in row:
        at = 0
        for pair in pairs:
            at += 1
            if pair[1] in marked:
                del pairs[at - 1]
    return [place for place, _ in pairs]


def plain_runs(marked, values):
    """The runs, by looking from each place as far as there are marked values."""
    found = []
    for first in range(len(values)):
        if values[first] in marked and (first == 0 or values[first - 1] not in marked):
            behind = first
            while behind < len(values) and values[behind] in marked:
                behind += 1
            found.append((first, behind - first))
    return found


class Odd:
    """A thing of no kind that a function takes."""


def not_whole():
    """Things that are no whole numbers."""
    return [None, True, False, 1.0, float("nan"), "1", b"1", [1], (1,), {1: 1}, {1}, Odd(), int]


def not_lists():
    """Things that are no lists."""
    return [None, True, 0, 1.5, "", "12", b"12", (), (1, 2), {}, {1: 1}, {1}, range(3), iter([1]), Odd(), list]


def not_dicts():
    """Things that are no dicts."""
    return [None, True, 0, 1.5, "", "1: 2", b"1:", [], [(1, [2])], (), ((1, [2]),), {1}, range(3), Odd(), dict]


def wrong_values():
    """Wrong lists of values, with the field that tells of each."""
    cases = [(thing, None) for thing in not_lists()]
    cases += [([1] * 121, None), ([True] * 121, None), ([1] * 5000, None)]
    cases += [([thing], 0) for thing in not_whole()]
    cases += [([1, 2, thing, 3, "x"], 2) for thing in not_whole()]
    cases += [([0] * 119 + [thing], 119) for thing in not_whole()]
    return cases


def wrong_marked():
    """Wrong lists of marks, with the field that tells of each."""
    cases = [(thing, None) for thing in not_lists()]
    cases += [(list(range(13)), None), ([1] * 13, None), (["x"] * 13, None)]
    cases += [([thing], 0) for thing in not_whole()]
    cases += [([1, 2, thing, 1], 2) for thing in not_whole()]
    cases += [([1, 1], 1), ([3, 2, 1, 2, 3], 3), ([1, 2, 1, "x"], 2), ([1, "x", 1], 1)]
    cases += [(list(range(11)) + [0], 11), ([0, False], 1), ([1, True], 1), ([TWENTY, -TWENTY, TWENTY], 2)]
    return cases


def wrong_rows():
    """Wrong rows, with the field that tells of each."""
    cases = [(thing, None) for thing in not_lists()]
    cases += [([[]] * 9, None), ([[1]] * 9, None), (["x"] * 9, None)]
    cases += [([thing], 0) for thing in not_lists()]
    cases += [([[1], [], marked, "x"], 2) for marked, _ in wrong_marked()]
    cases += [([[1]] * 7 + [[1, 1]], 7)]
    return cases


def wrong_brings():
    """Wrong dicts of what values bring, with the field that tells of each."""
    cases = [(thing, None) for thing in not_dicts()]
    cases += [({number: [] for number in range(13)}, None), ({str(number): "x" for number in range(13)}, None)]
    hashable = [thing for thing in not_whole() if not isinstance(thing, (list, dict, set))]
    cases += [({thing: []}, thing) for thing in hashable]
    cases += [({9: [], 4: [9], thing: [], "y": 3, 2: None}, thing) for thing in hashable]
    for thing in not_lists() + [[1] * 13, ["x"] * 13, [1] * 11 + [None], [1] * 12 + [None]]:
        cases += [({4: thing}, 4), ({9: [], -TWENTY: [9], 0: thing, 5: thing, "y": 3}, 0)]
    for thing in not_whole():
        cases += [({4: [thing]}, 4), ({9: [], TWENTY: [1, 2, thing], 0: "x"}, TWENTY)]
    cases += [({**{number: [1] for number in range(11)}, 11: [True]}, 11)]
    return cases


def not_places():
    """Things that are no whole numbers from 0 on."""
    return not_whole() + [-1, -7, -TWENTY]


def wrong_up_to(most):
    """Things that are no whole numbers from 0 to `most`."""
    return not_whole() + [-1, most + 1, -TWENTY, TWENTY]


def expect(test, error, field, found, call, *args, **named):
    """Check that a call raises just this error, and what its field holds."""
    with test.assertRaises(error) as caught:
        call(*args, **named)
    test.assertIs(caught.exception.__class__, error)
    held = getattr(caught.exception, field)
    if found is None or isinstance(found, (bool, Odd)):
        test.assertIs(held, found)
    elif found == found:
        test.assertEqual(held, found)
    test.assertIs(held.__class__, found.__class__)
