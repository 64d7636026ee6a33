"""The errors of the package.

An error has what it was made with under the names of its parameters, and
nothing is asked of these things: a value of any kind can be one of them.
"""


class FallError(ValueError):
    """What is told of a wrong argument."""


class BadDrawing(FallError):
    """No DRAWING: the place is None, the number of a thing in it, or "ground"."""

    def __init__(self, place):
        self.place = place


class BadCompany(FallError):
    """No COMPANY: the number is None, or that of the first thing that is no DRAWING."""

    def __init__(self, number):
        self.number = number


class BadMove(FallError):
    """No MOVE of the COMPANY."""

    def __init__(self, given):
        self.given = given


class BadNumber(FallError):
    """No such number, or no such numbers, as are asked for."""

    def __init__(self, given):
        self.given = given


class BadPoint(FallError):
    """No point of the DRAWING."""

    def __init__(self, given):
        self.given = given


class BadStep(FallError):
    """No STEP of the DRAWING."""

    def __init__(self, given):
        self.given = given


class BadPaper(FallError):
    """No PAPER: the part is the number of a thing in it, or a word for what is wrong."""

    def __init__(self, part):
        self.part = part


class BadLog(FallError):
    """No LOG: the number is None, or that of the first thing that is no pair of one."""

    def __init__(self, number):
        self.number = number


class BadText(FallError):
    """No text: the numbers of the line and the word that cannot stand there, or None twice."""

    def __init__(self, line, word):
        self.line = line
        self.word = word


class TooMany(OverflowError):
    """More EDGES than the most that a DRAWING can have."""

    def __init__(self, most):
        self.most = most


class NothingLeft(RuntimeError):
    """Not so many MOVES are there to be taken back or done again."""

    def __init__(self, many):
        self.many = many
