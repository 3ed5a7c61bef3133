"""What the tests of growing loops share: loops gone through step by step, and drawn dicts."""

import random
from functools import lru_cache

from tests.common import TWENTY

POOL = [TWENTY, -TWENTY, -2, -1, *range(12)]


def plain_at_end(brings, values, most):
    """The list in the end of the loop at the end, or None if it gets longer than `most`."""
    rest = list(values)
    for value in rest:
        rest.extend(brings.get(value, []))
        if len(rest) > most:
            return None
    return rest


def plain_behind(brings, values, most):
    """The list in the end of the loop behind, or None if it gets longer than `most`."""
    rest = list(values)
    place = 0
    for value in rest:
        place += 1
        for shift, brought in enumerate(brings.get(value, [])):
            rest.insert(place + shift, brought)
        if len(rest) > most:
            return None
    return rest


def plain_visits(brings, values, most):
    """The first values, at most so many, that the loop behind visits, whether it ends or not."""
    upcoming = values[::-1]
    visits = []
    while upcoming and len(visits) < most:
        visits.append(upcoming.pop())
        upcoming.extend(reversed(brings.get(visits[-1], [])))
    return visits


def ends_ahead_after(brings, values, most):
    """Whether the loop ahead ends within so many visits."""
    rest = list(values)
    place = 0
    for _ in range(most):
        if place >= len(rest):
            return True
        place += 1
        rest[place - 1:place - 1] = brings.get(rest[place - 1], [])
    return place >= len(rest)


def reached_from(brings, number):
    """All numbers that this one brings, or that these bring, and so on."""
    found = []
    upcoming = list(brings.get(number, []))
    while upcoming:
        one = upcoming.pop()
        if one not in found:
            found.append(one)
            upcoming.extend(brings.get(one, []))
    return found


def lasts(brings, number):
    """Whether a ring is reached from the list of this number alone."""
    return any(one in reached_from(brings, one) for one in [number, *reached_from(brings, number)])


def plain_ring(brings, values):
    """The ring into which the heirs of the first lasting value come, or None if there is no such value."""
    heirs = []
    upcoming = values
    while True:
        lasting = [number for number in upcoming if lasts(brings, number)]
        if not lasting:
            return None
        if lasting[0] in heirs:
            return heirs[heirs.index(lasting[0]):]
        heirs.append(lasting[0])
        upcoming = brings[lasting[0]]


def lengths(brings):
    """A function that tells how many values come of a number that does not last, itself included."""
    @lru_cache(maxsize=None)
    def length(number):
        return 1 + sum(length(brought) for brought in brings.get(number, []))
    return length


def counts(brings, value):
    """A function that tells how often the value is among what comes of a number that does not last."""
    @lru_cache(maxsize=None)
    def count(number):
        return int(number == value) + sum(count(brought) for brought in brings.get(number, []))
    return count


def far_at_end(brings, values, place):
    """The value at a place in the end of the loop at the end, level after level."""
    @lru_cache(maxsize=None)
    def width(number, steps):
        return 1 if steps == 0 else sum(width(brought, steps - 1) for brought in brings.get(number, []))

    def below(row, steps, left):
        for number in row:
            if left < width(number, steps):
                return number if steps == 0 else below(brings[number], steps - 1, left)
            left -= width(number, steps)

    for steps in range(14):
        whole = sum(width(number, steps) for number in values)
        if place < whole:
            return below(values, steps, place)
        place -= whole
    return None


def far_behind(brings, values, place):
    """The value at a place in the end of the loop behind, passing over all that is known to lie before it."""
    length = lengths(brings)
    upcoming = values[::-1]
    while upcoming:
        number = upcoming.pop()
        if place == 0:
            return number
        if place < length(number):
            place -= 1
            upcoming.extend(reversed(brings[number]))
        else:
            place -= length(number)
    return None


def drawn_row(draw, first, others, size):
    """A list of so many numbers: often one of the first ones, and otherwise one of the others."""
    often = draw.choice([0.2, 0.5, 0.9]) if first else 0
    return [draw.choice(first) if draw.random() < often else draw.choice(others) for _ in range(size)]


def ending_dict(draw):
    """A dict without rings, its keys in any order: each brings such keys as come later, and other numbers."""
    keys = draw.sample(POOL, draw.choice([0, 2, 4, 8, 12, 12, 12]))
    others = [number for number in POOL if number not in keys]
    most = draw.choice([2, 4, 12])
    pairs = []
    for at, key in enumerate(keys):
        pairs.append((key, drawn_row(draw, keys[at + 1:at + 3], others, draw.choice([0, 1, most, most, most]))))
    draw.shuffle(pairs)
    return dict(pairs)


def ringed_dict(draw):
    """A dict without rings, but for some numbers in it that may be changed into any keys."""
    brings = ending_dict(draw)
    full = [key for key in brings if brings[key]]
    for key in draw.sample(full, min(len(full), draw.choice([1, 3, 6]))):
        brings[key][draw.randrange(len(brings[key]))] = draw.choice(list(brings))
    return brings


def drawn_cases(many, seed):
    """Dicts and lists: with rings and without, and with rings that are not reached from the list."""
    draw = random.Random(seed)
    for _ in range(many):
        brings = draw.choice([ending_dict, ringed_dict, ringed_dict])(draw)
        ending = [number for number in POOL if not lasts(brings, number)]
        first = draw.choice([[], list(brings), list(brings), [number for number in brings if number in ending]])
        size = draw.choice([0, 1, 2, 5, 20, draw.randint(0, 120), 120])
        yield brings, drawn_row(draw, first, draw.choice([POOL, ending]), size)


def some_edges():
    """Dicts and lists at the edges that the document names."""
    yield {}, []
    yield {}, [5]
    yield {}, [TWENTY, -TWENTY] * 60
    yield {1: [2]}, []
    yield {1: []}, [1]
    yield {1: []}, [1, 1, 2]
    yield {1: [2]}, [1]
    yield {1: [7] * 12}, [1] * 120
    yield {1: [1]}, [1]
    yield {1: [1]}, [2, 3]
    yield {1: [1]}, [2, 1, 3]
    yield {1: [2, 1]}, [3, 1]
    yield {1: [1, 1]}, [1, 1]
    yield {1: [2], 2: [1]}, [3]
    yield {1: [2], 2: [1]}, [2, 1]
    yield {3: [1, 2], 2: [1]}, [3, 2]
    yield {2: [1], 3: [1, 2]}, [3, 2]
    yield {1: [2], 2: [3], 3: [2]}, [5, 1]
    yield {1: [2, 1, 4]}, [3, 1, 5]
    yield {-TWENTY: [TWENTY, 0], TWENTY: [0, -1]}, [-TWENTY, TWENTY]
