"""Loops that put values into the list that they go through."""

from midwalk.checks import check_brings, check_place, check_value, check_values
from midwalk.errors import Endless, TooMany

MOST_IN_THE_END = 5000


def ring(brings, values):
    """The ring into which the heirs of the first lasting value come, or None if the loops end."""
    check_both(brings, values)
    return ring_reached(brings, values) or None


def ends_ahead(brings, values):
    """Whether the growing loop ahead ends."""
    check_both(brings, values)
    return not any([brings.get(value) for value in values])


def length_of(brings, values):
    """The number of values in the end."""
    check_both(brings, values)
    return length_in_the_end(brings, values)


def grown_at_end(brings, values):
    """The list in the end of the growing loop at the end."""
    check_both(brings, values)
    check_length(brings, values)
    grown = list(values)
    place = 0
    while place < len(grown):
        grown.extend(brings.get(grown[place], []))
        place += 1
    return grown


def grown_behind(brings, values):
    """The list in the end of the growing loop behind."""
    check_both(brings, values)
    check_length(brings, values)
    grown = list(values)
    place = 0
    while place < len(grown):
        brought = brings.get(grown[place], [])
        place += 1
        grown[place:place] = brought
    return grown


def value_at_end(brings, values, place):
    """The value at a place of the list that the growing loop at the end leaves, or None."""
    check_both(brings, values)
    check_place(place)
    check_ends(brings, values)
    levels = widths_by_level(brings, values)
    left = place
    for level, widths in enumerate(levels):
        width = length_of_row(widths, values)
        if left < width:
            return value_in_level(brings, levels[:level + 1], values, left)
        left -= width
    return None


def value_behind(brings, values, place):
    """The value at a place of the list that the growing loop behind leaves, or None."""
    check_both(brings, values)
    check_place(place)
    check_ends(brings, values)
    return value_in_row(brings, lengths_by_number(brings, values), values, place)


def visited_behind(brings, values, place):
    """The value that the growing loop behind visits after so many others, or None if it ends before."""
    check_both(brings, values)
    check_place(place)
    lengths = lengths_by_number(brings, values)
    once, turn = visits_behind(brings, lengths, values)
    ahead = length_of_row(lengths, once)
    if not turn or place < ahead:
        return value_in_row(brings, lengths, once, place)
    return value_in_row(brings, lengths, turn, (place - ahead) % length_of_row(lengths, turn))


def count_of(brings, values, value):
    """How often a value occurs in the list in the end."""
    check_both(brings, values)
    check_value(value)
    check_ends(brings, values)
    numbers = list(lengths_by_number(brings, values))
    counts = {number: values.count(number) for number in numbers}
    # All that brings a number stands behind it there, so its count is whole when it is gone on with.
    for number in reversed(numbers):
        for brought in brings.get(number, []):
            counts[brought] += counts[number]
    return counts.get(value, 0)


def check_both(brings, values):
    """Check what all functions here begin with, in the order of the parameters."""
    check_brings(brings)
    check_values(values)


def check_ends(brings, values):
    """Raise Endless if the growing loops do not end."""
    reached = ring_reached(brings, values)
    if reached:
        raise Endless(reached)


def check_length(brings, values):
    """Raise Endless if the growing loops do not end, and TooMany if the list in the end is too long."""
    length = length_in_the_end(brings, values)
    if length > MOST_IN_THE_END:
        raise TooMany(length)


def length_in_the_end(brings, values):
    """The number of values in the end; raise Endless if the growing loops do not end."""
    check_ends(brings, values)
    return length_of_row(lengths_by_number(brings, values), values)


def all_numbers(brings, values):
    """All numbers that stand in the list or in the dict; they may occur more than once."""
    return values + list(brings) + [number for brought in brings.values() for number in brought]


def lengths_by_number(brings, values):
    """For each number that does not last, how many values it comes to, itself included.

    It stands behind all that it brings. Lasting numbers are not there.
    """
    lengths = {number: 1 for number in all_numbers(brings, values) if not brings.get(number)}
    # Each time at least one more number is told, as long as there is one that does not last.
    for _ in brings:
        for key, brought in brings.items():
            if key not in lengths and all([number in lengths for number in brought]):
                lengths[key] = 1 + length_of_row(lengths, brought)
    return lengths


def length_of_row(lengths, row):
    """How many values a row comes to; a lasting number counts by itself alone."""
    return sum([lengths.get(number, 1) for number in row])


def visits_behind(brings, lengths, values):
    """What the loop behind visits, as a row for once and a row that comes over and over.

    Only what comes of the numbers that do not last is missing there. The second row is empty if the loop ends.
    """
    visited = []
    begun = {}
    upcoming = values
    while True:
        before, heir = until_lasting(lengths, upcoming)
        visited += before
        if heir is None:
            return visited, []
        if heir in begun:
            return visited[:begun[heir]], visited[begun[heir]:]
        begun[heir] = len(visited)
        visited.append(heir)
        upcoming = brings[heir]


def until_lasting(lengths, row):
    """The numbers before the first lasting one, and this one, or None if there is none."""
    for index, number in enumerate(row):
        if number not in lengths:
            return row[:index], number
    return row, None


def ring_reached(brings, values):
    """The ring into which the heirs of the first lasting value come, or an empty list."""
    lengths = lengths_by_number(brings, values)
    _, turn = visits_behind(brings, lengths, values)
    return [number for number in turn if number not in lengths]


def value_in_row(brings, lengths, row, place):
    """The value at a place if all that comes of each number follows it at once, or None."""
    value, left = part_with(lengths, row, place)
    if left == 0:
        return value
    return value_in_row(brings, lengths, brings[value], left - 1)


def widths_by_level(brings, values):
    """For each number of steps, how many values come of each number by just so many."""
    numbers = all_numbers(brings, values)
    levels = [{number: 1 for number in numbers}]
    # If the loops end, no key comes of itself, so there are at most as many steps as there are keys.
    for _ in brings:
        below = levels[-1]
        levels.append({number: sum([below[brought] for brought in brings.get(number, [])]) for number in numbers})
    return levels


def value_in_level(brings, levels, values, place):
    """The value at a place of what comes of the values by as many steps as the last of the levels tells."""
    row = values
    left = place
    for widths in reversed(levels[1:]):
        value, left = part_with(widths, row, left)
        row = brings[value]
    return row[left]


def part_with(lengths, row, place):
    """The number whose part of a row has the place, and the place within this part; None and 0 behind the end."""
    left = place
    for number in row:
        length = lengths.get(number, 1)
        if left < length:
            return number, left
        left -= length
    return None, 0
