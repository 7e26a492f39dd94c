"""All errors of the program; each field is an attribute of the name that the interface tells."""


class OsierError(ValueError):
    """What is handed in is not right."""


class BadName(OsierError):
    """A name of a web or of a shape that is none, or that stood ahead."""

    def __init__(self, name):
        self.name = name


class BadWeb(OsierError):
    """A web that cannot be: place is an item's, -1 for a name's target, None for the whole."""

    def __init__(self, place):
        self.place = place


class BadText(OsierError):
    """A text that no web shows."""


class BadPoints(OsierError):
    """A shape whose number of points is none that a shape has."""

    def __init__(self, name):
        self.name = name


class BadRule(OsierError):
    """A rule that is not right; -1 for a wrong count of rules."""

    def __init__(self, number):
        self.number = number


class Groundless(OsierError):
    """A shape without a least heap."""

    def __init__(self, name):
        self.name = name


class BadItem(OsierError):
    """An item of a web that does not fit the book."""

    def __init__(self, place):
        self.place = place


class BadRow(OsierError):
    """A row of a program that is wrong; -1 for a wrong count of rows, -2 for too many names."""

    def __init__(self, number):
        self.number = number


class BadLoftName(OsierError):
    """A program's name in a loft that is none."""

    def __init__(self, name):
        self.name = name


class BadPage(OsierError):
    """A text that no loft writes."""

    def __init__(self, line):
        self.line = line


class Shut(OsierError):
    """A row touches a point that has a shape."""

    def __init__(self, point):
        self.point = point


class Full(OsierError):
    """More than there is room for."""


class Missing(LookupError):
    """What is asked for is not there."""


class NoName(Missing):
    """A web has no such name."""

    def __init__(self, name):
        self.name = name


class NoShape(Missing):
    """A book has no such shape."""

    def __init__(self, name):
        self.name = name


class NoRow(Missing):
    """A program has no such row."""

    def __init__(self, number):
        self.number = number


class NoProgram(Missing):
    """A loft has no such program."""

    def __init__(self, name):
        self.name = name


class NoNumber(Missing):
    """There is no row or rule of that number."""

    def __init__(self, number):
        self.number = number


class Taken(KeyError):
    """A loft has a program of that name already."""

    def __init__(self, name):
        self.name = name


class Nothing(IndexError):
    """There is nothing to undo or to redo."""
