"""The errors of the package."""


class InvalidValues(ValueError):
    """Values that are not a list of at most 120 whole numbers."""

    def __init__(self, index):
        super().__init__("values are a list of at most 120 whole numbers")
        self.index = index


class InvalidMarked(ValueError):
    """Marked numbers that are not a list of at most 12 different whole numbers."""

    def __init__(self, index):
        super().__init__("marked numbers are a list of at most 12 different whole numbers")
        self.index = index


class InvalidRow(ValueError):
    """A row that is not a list of at most 8 lists of marked numbers."""

    def __init__(self, index):
        super().__init__("a row is a list of at most 8 lists of marked numbers")
        self.index = index


class InvalidPasses(ValueError):
    """A number of passes that is not a whole number within its bounds."""

    def __init__(self, passes):
        super().__init__("a number of passes is a whole number within its bounds")
        self.passes = passes


class InvalidNumber(ValueError):
    """A number of things that is not a whole number within its bounds."""

    def __init__(self, number):
        super().__init__("a number of things is a whole number within its bounds")
        self.number = number


class InvalidPlace(ValueError):
    """A place that is not a whole number from 0 on."""

    def __init__(self, place):
        super().__init__("a place is a whole number from 0 on")
        self.place = place


class InvalidValue(ValueError):
    """A value that is not a whole number."""

    def __init__(self, value):
        super().__init__("a value is a whole number")
        self.value = value


class LackingValue(LookupError):
    """A value that the list does not have."""

    def __init__(self, value):
        super().__init__("the list does not have this value")
        self.value = value


class InvalidBrings(ValueError):
    """What values bring, not told by a dict as the document describes it."""

    def __init__(self, key):
        super().__init__("what values bring is a dict of at most 12 lists of at most 12 whole numbers")
        self.key = key


class Endless(ValueError):
    """Growing loops that do not end."""

    def __init__(self, ring):
        super().__init__("the growing loops do not end")
        self.ring = ring


class InvalidText(ValueError):
    """A text that is not written as the document describes it."""

    def __init__(self, line):
        super().__init__("the text is not written in this way")
        self.line = line


class TooMany(ValueError):
    """More things than the bounds allow."""

    def __init__(self, count):
        super().__init__("there are more of them than the bounds allow")
        self.count = count


class Ended(LookupError):
    """A visit behind the end of the list."""


class NothingVisited(LookupError):
    """A drop where the list has no place before the walk's place."""


class NothingToUndo(LookupError):
    """An undo without a deed to take back."""
