"""Checks of arguments that several modules share."""

from midwalk.errors import (InvalidBrings, InvalidMarked, InvalidNumber, InvalidPasses, InvalidPlace, InvalidRow,
                            InvalidValue, InvalidValues)

MOST_VALUES = 120
MOST_MARKED = 12
MOST_IN_ROW = 8
MOST_PASSES = 8
MOST_KEYS = 12
MOST_BROUGHT = 12


def is_whole(thing):
    """Whether a thing is a whole number: True and False are none."""
    return isinstance(thing, int) and not isinstance(thing, bool)


def is_whole_up_to(thing, most):
    """Whether a thing is a whole number from 0 to `most`."""
    return is_whole(thing) and 0 <= thing <= most


def is_list_up_to(thing, most):
    """Whether a thing is a list of at most `most` things."""
    return isinstance(thing, list) and len(thing) <= most


def first_wrong_mark(marked):
    """The number of the first thing that is not a whole number or stood before, or None."""
    for index, number in enumerate(marked):
        if not is_whole(number) or number in marked[:index]:
            return index
    return None


def first_not_whole(things):
    """The number of the first thing that is not a whole number, or None."""
    for index, thing in enumerate(things):
        if not is_whole(thing):
            return index
    return None


def check_values(values):
    """Raise InvalidValues unless these are at most 120 whole numbers."""
    if not is_list_up_to(values, MOST_VALUES):
        raise InvalidValues(None)
    wrong = first_not_whole(values)
    if wrong is not None:
        raise InvalidValues(wrong)


def check_marked(marked):
    """Raise InvalidMarked unless these are at most 12 different whole numbers."""
    if not is_list_up_to(marked, MOST_MARKED):
        raise InvalidMarked(None)
    wrong = first_wrong_mark(marked)
    if wrong is not None:
        raise InvalidMarked(wrong)


def check_row(row):
    """Raise InvalidRow unless these are at most 8 lists of marked numbers."""
    if not is_list_up_to(row, MOST_IN_ROW):
        raise InvalidRow(None)
    for index, marked in enumerate(row):
        if not is_list_up_to(marked, MOST_MARKED) or first_wrong_mark(marked) is not None:
            raise InvalidRow(index)


def check_passes(passes, most):
    """Raise InvalidPasses unless this is a whole number from 0 to `most`."""
    if not is_whole_up_to(passes, most):
        raise InvalidPasses(passes)


def check_number(number, most):
    """Raise InvalidNumber unless this is a whole number from 0 to `most`."""
    if not is_whole_up_to(number, most):
        raise InvalidNumber(number)


def check_brings(brings):
    """Raise InvalidBrings unless this is a dict of at most 12 lists of at most 12 whole numbers."""
    if not isinstance(brings, dict) or len(brings) > MOST_KEYS:
        raise InvalidBrings(None)
    for key, brought in brings.items():
        if not is_whole(key) or not is_list_up_to(brought, MOST_BROUGHT) or first_not_whole(brought) is not None:
            raise InvalidBrings(key)


def check_place(place):
    """Raise InvalidPlace unless this is a whole number from 0 on."""
    if not is_whole(place) or place < 0:
        raise InvalidPlace(place)


def check_value(value):
    """Raise InvalidValue unless this is a whole number."""
    if not is_whole(value):
        raise InvalidValue(value)
