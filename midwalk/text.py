"""Lists, and what values bring, as text."""

from midwalk.checks import MOST_BROUGHT, MOST_KEYS, MOST_VALUES, check_brings, check_values
from midwalk.errors import InvalidText


def format_values(values):
    """The text of a list."""
    check_values(values)
    return " ".join([str(value) for value in values])


def parse_values(text):
    """The list that a text writes."""
    if not lines_up_to(text, 1):
        return []
    words = text.split(" ")
    if not are_numbers(words, MOST_VALUES):
        raise InvalidText(0)
    return [int(word) for word in words]


def format_brings(brings):
    """The text of what values bring."""
    check_brings(brings)
    return "\n".join([" ".join([f"{key}:"] + [str(value) for value in brings[key]]) for key in sorted(brings)])


def parse_brings(text):
    """What values bring, as a text writes it, its keys ascending."""
    brings = {}
    before = None
    for index, line in enumerate(lines_up_to(text, MOST_KEYS)):
        words = line.split(" ")
        if not is_line(words):
            raise InvalidText(index)
        key = int(words[0][:-1])
        if before is not None and key <= before:
            raise InvalidText(index)
        brings[key] = [int(word) for word in words[1:]]
        before = key
    return brings


def lines_up_to(text, most):
    """The lines of a text; raise InvalidText if it is none, or has more than so many."""
    if not isinstance(text, str):
        raise InvalidText(None)
    lines = text.split("\n") if text else []
    if len(lines) > most:
        raise InvalidText(None)
    return lines


def is_line(words):
    """Whether words write what one key brings."""
    return words[0].endswith(":") and is_number(words[0][:-1]) and are_numbers(words[1:], MOST_BROUGHT)


def are_numbers(words, most):
    """Whether these are at most so many words, each of which writes a whole number."""
    return len(words) <= most and all([is_number(word) for word in words])


def is_number(word):
    """Whether a word writes a whole number."""
    digits = word.removeprefix("-")
    # Python itself reads more digits than those from 0 to 9.
    if not digits.isascii() or not digits.isdigit():
        return False
    return word == "0" or not digits.startswith("0")
