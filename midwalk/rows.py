"""Rows of dropping passes, and which of them do the same on all lists."""

from midwalk.checks import check_marked, check_row, check_values
from midwalk.errors import TooMany
from midwalk.loops import drop_visited, left_by

MOST_TOGETHER = 8


def kept_places(row, values):
    """The places of a list that a row keeps."""
    check_row(row)
    check_values(values)
    places = list(range(len(values)))
    for marked in row:
        # Equal values are told apart by their places, so the pass goes over these instead.
        dropping = [place for place in places if values[place] in marked]
        places = left_by(drop_visited, dropping, places)
    return places


def are_alike(one, other):
    """Whether two rows keep the same places of every list."""
    check_row(one)
    check_row(other)
    return marks_of_passes(one) == marks_of_passes(other)


def marks_of_passes(row):
    """The marks of all passes that have any, so that rows alike give equal lists."""
    return [sorted(marked) for marked in row if marked]


def parting_list(one, other):
    """The least of the shortest lists of which two rows keep unlike places, or None."""
    check_row(one)
    check_row(other)
    together = len(one) + len(other)
    if together > MOST_TOGETHER:
        raise TooMany(together)
    return first_parting(one, other)


def first_parting(one, other):
    """Go through all lists, shortest first, then the least, until the rows part.

    Of the lists that bring both rows into the same state only the first is gone on with:
    what comes behind them is treated alike.
    """
    numbers = sorted({number for marked in one + other for number in marked})
    start = ((False,) * len(one), (False,) * len(other))
    reached = {start: True}
    begun = [(start, [])]
    at = 0
    while at < len(begun):
        (skips, other_skips), values = begun[at]
        at += 1
        for number in numbers:
            next_skips, kept = behind_value(one, skips, number)
            next_other_skips, other_kept = behind_value(other, other_skips, number)
            if kept != other_kept:
                return values + [number]
            state = (next_skips, next_other_skips)
            if state not in reached:
                reached[state] = True
                begun.append((state, values + [number]))
    return None


def behind_value(row, skips, number):
    """Which passes of a row skip the next value that comes to them, and whether this one is kept.

    All passes go at once: a value comes to a pass if those before leave it, and a pass that
    dropped the value before does not visit it.
    """
    after = list(skips)
    for index, marked in enumerate(row):
        if after[index]:
            after[index] = False
        elif number in marked:
            after[index] = True
            return tuple(after), False
    return tuple(after), True


def may_exchange(one, other):
    """Whether two passes may be exchanged."""
    check_marked(one)
    check_marked(other)
    return sorted(one) == sorted(other) or not one or not other
