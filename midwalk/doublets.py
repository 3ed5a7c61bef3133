"""Loops that drop doublets."""

from midwalk.checks import check_number, check_values

MOST_SIZE = 6
MOST_KINDS = 4


def after_doublet_pass(values):
    """What a doublet pass leaves."""
    check_values(values)
    rest, _ = rest_and_visits(values)
    return rest


def doublet_visits(values):
    """The places that a doublet pass visits, as numbered at first."""
    check_values(values)
    _, visits = rest_and_visits(values)
    return visits


def comes_out_right(values):
    """Whether what a doublet pass leaves has no doublets."""
    check_values(values)
    return is_right(values)


def doublet_passes_needed(values):
    """The least number of doublet passes that leave no doublets."""
    check_values(values)
    rest = values
    passes = 0
    while has_doublets(rest):
        rest, _ = rest_and_visits(rest)
        passes += 1
    return passes


def count_right_lists(size, kinds):
    """The number of lists of so many things over so many numbers that come out without doublets."""
    check_number(size, MOST_SIZE)
    check_number(kinds, MOST_KINDS)
    rows = [[]]
    for _ in range(size):
        rows = [row + [number] for row in rows for number in range(kinds)]
    return len([row for row in rows if is_right(row)])


def rest_and_visits(values):
    """What a doublet pass leaves, and the places that it visits, as numbered at first."""
    rest = list(values)
    visits = []
    place = 0
    while place < len(rest):
        # All that was dropped stood at this place or before it.
        visits.append(place + len(values) - len(rest))
        value = rest[place]
        if rest.count(value) > 1:
            rest.remove(value)
        place += 1
    return rest, visits


def has_doublets(values):
    """Whether a value occurs more than once."""
    return len(set(values)) < len(values)


def is_right(values):
    """Whether what a doublet pass leaves has no doublets."""
    rest, _ = rest_and_visits(values)
    return not has_doublets(rest)
