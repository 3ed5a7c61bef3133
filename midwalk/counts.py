"""From which lists a list comes, and how many lists come out right."""

from midwalk.checks import MOST_PASSES, check_marked, check_number, check_passes, check_values
from midwalk.errors import TooMany

MOST_PASSES_BEFORE = 4
MOST_LISTS = 5000
MOST_SIZE = 60
MOST_KINDS = 12


def count_before(marked, values, *, passes=1):
    """The number of lists from which a list comes by so many passes."""
    check_marked(marked)
    check_values(values)
    check_passes(passes, MOST_PASSES_BEFORE)
    return number_before(marked, values, passes)


def each_before(marked, values):
    """Yield all lists from which a list comes by one pass, in ascending order."""
    check_marked(marked)
    check_values(values)
    count = number_before(marked, values, 1)
    if count > MOST_LISTS:
        raise TooMany(count)
    yield from sorted(lists_before(marked, values))


def count_right(size, marks, others, *, passes=1):
    """The number of lists over so many numbers that come out right by so many passes."""
    check_number(size, MOST_SIZE)
    check_number(marks, MOST_KINDS)
    check_number(others, MOST_KINDS)
    check_passes(passes, MOST_PASSES)
    # One number for each length of the run at the end, up to the longest of which nothing is left.
    ending = [1] + [0] * longest_gone(passes)
    for _ in range(size):
        ending = [sum(ending) * others] + [count * marks for count in ending[:-1]]
    return sum(ending)


def longest_gone(passes):
    """The length of the longest run of which so many passes leave nothing."""
    return (1 << passes) - 1


def number_before(marked, values, passes):
    """The number of lists from which a list comes, by the lengths of runs."""
    kinds = len(marked)
    gone = longest_gone(passes)
    left = len([value for value in values if value in marked])
    # Right before each marked value that is left, so many are dropped; before each value
    # that is not marked, and at the end, so many or fewer.
    ends = sum([power(kinds, length) for length in range(gone + 1)])
    return power(kinds, gone * left) * power(ends, len(values) - left + 1)


def power(base, exponent):
    """The base to this exponent, 1 if it is 0."""
    product = 1
    for _ in range(exponent):
        product *= base
    return product


def lists_before(marked, values):
    """All lists from which a list comes by one pass, in any order."""
    singles = [[number] for number in marked]
    ends = [[]] + singles
    begun = [[]]
    for value in values:
        dropped = singles if value in marked else ends
        begun = [row + gone + [value] for row in begun for gone in dropped]
    return [row + gone for row in begun for gone in ends]
