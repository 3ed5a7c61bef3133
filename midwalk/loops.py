"""The loop by places, which all passes share. Nothing is checked here."""


def left_by(body, marked, values):
    """What a loop leaves that calls body(rest, place) behind each visit of a marked value.

    `place` is that of the visited value, and the body drops something from `rest`.
    """
    rest = list(values)
    place = 0
    while place < len(rest):
        if rest[place] in marked:
            body(rest, place)
        place += 1
    return rest


def drop_visited(rest, place):
    """The body of a dropping pass."""
    del rest[place]


def drop_first_equal(rest, place):
    """The body of a first pass."""
    rest.remove(rest[place])


def drop_last(rest, _):
    """The body of a last pass."""
    rest.pop()


def drop_head(rest, _):
    """The body of a head pass."""
    del rest[0]
