"""The errors that the program raises."""


class GroveError(ValueError):
    """The base class of all errors that the program raises."""


class BadKinds(GroveError):
    """A kinds table has an invalid row."""

    def __init__(self, row):
        GroveError.__init__(self, f"row {row} of the kinds table is not valid")
        self.row = row


class BadFunctions(GroveError):
    """A function table has an invalid row."""

    def __init__(self, row):
        GroveError.__init__(self, f"row {row} of the function table is not valid")
        self.row = row


class BadTree(GroveError):
    """A value is not a tree."""


class BadLayout(GroveError):
    """The spec of a maker is missing or not valid."""

    def __init__(self, maker):
        GroveError.__init__(self, f"no valid spec for {maker}")
        self.maker = maker


class BadRow(GroveError):
    """A row of bytes is not the packed row of a tree."""

    def __init__(self, at):
        GroveError.__init__(self, f"the row cannot be read at index {at}")
        self.at = at


class NotThere(GroveError):
    """A name or a mark is unknown."""

    def __init__(self, name):
        GroveError.__init__(self, f"unknown: {name!r}")
        self.name = name


class Stuck(GroveError):
    """A run on a row cannot go on."""

    def __init__(self, function, maker, part):
        GroveError.__init__(self, f"{function} is stuck at {part} of {maker}")
        self.function = function
        self.maker = maker
        self.part = part


class Backward(Stuck):
    """The asked part lies behind the cursor."""


class Unknown(Stuck):
    """The end of an earlier part is not known."""

    def __init__(self, function, maker, part, blocker):
        Stuck.__init__(self, function, maker, part)
        self.blocker = blocker


class WrongLayout(GroveError):
    """A layout is not right for a start."""

    def __init__(self, start, tree):
        GroveError.__init__(self, f"the layout is not right for {start}")
        self.start = start
        self.tree = tree


class NoLayout(GroveError):
    """No layout is right for all starts."""

    def __init__(self, maker, cycle):
        GroveError.__init__(self, f"the parts of {maker} are asked in a cycle")
        self.maker = maker
        self.cycle = cycle
