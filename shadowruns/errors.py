"""The errors of the package; each keeps what it was given in attributes.

A POINT stands in no message: its integers may have more digits than Python writes.
"""

from shadowruns.shapes import as_tuples


class BadText(ValueError):
    """A text is not that of a PROGRAM, first at this line."""

    def __init__(self, line):
        ValueError.__init__(self, f"line {line} of the program cannot stand there")
        self.line = line


class BadLine(ValueError):
    """A request is not written like one, first at this line."""

    def __init__(self, line):
        ValueError.__init__(self, f"line {line} is not a request")
        self.line = line


class NoProgram(ValueError):
    """What would come about is not a PROGRAM."""

    def __init__(self):
        ValueError.__init__(self)


class Unsafe(ValueError):
    """A CONDITION that could fault, or reads a variable that is not there."""

    def __init__(self, condition):
        ValueError.__init__(self, "the condition may fault or has a variable that is not there")
        self.condition = as_tuples(condition)


class Taken(ValueError):
    """A NAME that a FUNCTION has already."""

    def __init__(self, name):
        ValueError.__init__(self, f"a function has the name {name} already")
        self.name = name


class NoFunction(LookupError):
    """A NAME that no FUNCTION has."""

    def __init__(self, name):
        LookupError.__init__(self, f"no function has the name {name}")
        self.name = name


class NoRisk(LookupError):
    """A POINT at which nothing can fault."""

    def __init__(self, point):
        LookupError.__init__(self, "this point has no risk")
        self.point = as_tuples(point)


class TooMany(OverflowError):
    """More names than the calls that there are."""

    def __init__(self, many):
        OverflowError.__init__(self, f"there are only {many} such calls")
        self.many = many
