"""The walk object: a list and a place, led step by step."""

from midwalk.checks import check_value, check_values
from midwalk.errors import Ended, LackingValue, NothingToUndo, NothingVisited

VISITED = "visited"
DROPPED = "dropped"
PUT = "put"


class Walk:
    """A copy of a list, and a place as a loop over it has one."""

    def __init__(self, values):
        check_values(values)
        self._row = list(values)
        self._spot = 0
        self._visited = []
        # What each deed did, at which place of the list, with which value.
        self._deeds = []

    @property
    def row(self):
        """The list now."""
        return list(self._row)

    @property
    def spot(self):
        """The place."""
        return self._spot

    @property
    def visited(self):
        """The values visited so far."""
        return list(self._visited)

    def visit(self):
        """Visit a value, add 1 to the place, and return the value."""
        if self._spot >= len(self._row):
            raise Ended("there is no value left to visit")
        value = self._row[self._spot]
        self._deeds.append((VISITED, self._spot, value))
        self._visited.append(value)
        self._spot += 1
        return value

    def drop(self):
        """Drop the value at the place before the walk's place, and return it."""
        if self._spot == 0 or self._spot > len(self._row):
            raise NothingVisited("the list has no place before the walk's place")
        return self._drop_at(self._spot - 1)

    def drop_first(self, value):
        """Drop the first value that is equal to the argument, and return its place."""
        check_value(value)
        if value not in self._row:
            raise LackingValue(value)
        place = self._row.index(value)
        self._drop_at(place)
        return place

    def put_last(self, value):
        """Put a value at the end of the list."""
        check_value(value)
        self._put_at(len(self._row), value)

    def put_next(self, value):
        """Put a value at the walk's place, or at the end if the list is shorter."""
        check_value(value)
        self._put_at(min(self._spot, len(self._row)), value)

    def undo(self):
        """Take back the last deed that was not taken back yet."""
        if not self._deeds:
            raise NothingToUndo("there is no deed to take back")
        deed, place, value = self._deeds.pop()
        if deed == VISITED:
            self._visited.pop()
            self._spot = place
        elif deed == DROPPED:
            self._row.insert(place, value)
        else:
            del self._row[place]

    def _drop_at(self, place):
        """Drop the value at a place of the list, and return it."""
        value = self._row.pop(place)
        self._deeds.append((DROPPED, place, value))
        return value

    def _put_at(self, place, value):
        """Put a value at a place of the list."""
        self._row.insert(place, value)
        self._deeds.append((PUT, place, value))
