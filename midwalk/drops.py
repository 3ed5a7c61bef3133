"""Loops that drop values from the list that they go through."""

from midwalk.checks import MOST_PASSES, check_marked, check_passes, check_values
from midwalk.loops import drop_first_equal, drop_head, drop_last, drop_visited, left_by


def check_both(marked, values):
    """Check what all functions here begin with, in the order of the parameters."""
    check_marked(marked)
    check_values(values)


def after_pass(marked, values):
    """What a dropping pass leaves."""
    check_both(marked, values)
    return left_by(drop_visited, marked, values)


def visited_places(marked, values):
    """The places that a dropping pass visits, as numbered at first."""
    check_both(marked, values)
    visited = []
    place = 0
    while place < len(values):
        visited.append(place)
        # The value behind a dropped one moves into its place, which the loop has left already.
        place += 2 if values[place] in marked else 1
    return visited


def after_passes(marked, values, *, passes=1):
    """What so many dropping passes leave."""
    check_both(marked, values)
    check_passes(passes, MOST_PASSES)
    rest = list(values)
    for _ in range(passes):
        rest = left_by(drop_visited, marked, rest)
    return rest


def passes_needed(marked, values):
    """The least number of dropping passes that leave no marked value."""
    longest = max([length for _, length in runs(marked, values)], default=0)
    # A pass leaves half of a run, rounded down.
    return longest.bit_length()


def runs(marked, values):
    """The runs, as tuples of the first place and the length."""
    check_both(marked, values)
    found = []
    length = 0
    for place, value in enumerate(values):
        if value in marked:
            length += 1
        elif length > 0:
            found.append((place - length, length))
            length = 0
    if length > 0:
        found.append((len(values) - length, length))
    return found


def after_first_pass(marked, values):
    """What a first pass leaves."""
    check_both(marked, values)
    return left_by(drop_first_equal, marked, values)


def after_last_pass(marked, values):
    """What a last pass leaves."""
    check_both(marked, values)
    return left_by(drop_last, marked, values)


def after_head_pass(marked, values):
    """What a head pass leaves."""
    check_both(marked, values)
    return left_by(drop_head, marked, values)


def by_numbers(marked, values):
    """What a loop by numbers leaves, and the number at which it breaks, or None."""
    check_both(marked, values)
    rest = list(values)
    for number in range(len(values)):
        if number >= len(rest):
            return rest, number
        if rest[number] in marked:
            del rest[number]
    return rest, None
