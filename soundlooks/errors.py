"""The errors of the package; each keeps what it is made with, whatever that is."""


class LookError(ValueError):
    """The base of all errors of the package."""


class InvalidText(LookError):
    """No text of the language: the place at which it is bad."""

    def __init__(self, line, column):
        self.line = line
        self.column = column


class InvalidProgram(LookError):
    """No program: the path at which it is wrong."""

    def __init__(self, place):
        self.place = place


class InvalidIndex(LookError):
    """No index of a procedure."""

    def __init__(self, given):
        self.given = given


class InvalidPlace(LookError):
    """No place of a graph."""

    def __init__(self, given):
        self.given = given


class InvalidNumber(LookError):
    """No number as it is asked for."""

    def __init__(self, given):
        self.given = given


class InvalidState(LookError):
    """No state of the program."""

    def __init__(self, given):
        self.given = given


class InvalidStretch(LookError):
    """No stretch."""

    def __init__(self, given):
        self.given = given


class InvalidRest(LookError):
    """No rest."""

    def __init__(self, given):
        self.given = given


class InvalidWidth(LookError):
    """No width of a word."""

    def __init__(self, given):
        self.given = given


class InvalidGuard(LookError):
    """No guard."""

    def __init__(self, given):
        self.given = given


class InvalidSize(LookError):
    """No size as it is asked for."""

    def __init__(self, given):
        self.given = given


class InvalidSlot(LookError):
    """No slot or index as it is asked for."""

    def __init__(self, given):
        self.given = given


class InvalidDifferences(LookError):
    """No differences."""

    def __init__(self, given):
        self.given = given


class InvalidEquations(LookError):
    """No equations."""

    def __init__(self, given):
        self.given = given


class InvalidSight(LookError):
    """No sight."""

    def __init__(self, given):
        self.given = given


class InvalidLook(LookError):
    """No look of the sight or place."""

    def __init__(self, given):
        self.given = given


class InvalidExpression(LookError):
    """No expression as it is asked for."""

    def __init__(self, given):
        self.given = given


class InvalidStep(LookError):
    """No step."""

    def __init__(self, given):
        self.given = given


class InvalidFault(LookError):
    """No fault."""

    def __init__(self, given):
        self.given = given


class InvalidInputs(LookError):
    """No tuple of inputs."""

    def __init__(self, index):
        self.index = index


class InvalidOrder(LookError):
    """No order of looking."""

    def __init__(self, index):
        self.index = index


class InvalidTable(LookError):
    """No table of the program."""

    def __init__(self, index):
        self.index = index


class InvalidMarks(LookError):
    """No marks."""

    def __init__(self, index):
        self.index = index


class InvalidSlots(LookError):
    """No tuple of slots."""

    def __init__(self, index):
        self.index = index


class InvalidValues(LookError):
    """No values as they are asked for."""

    def __init__(self, index):
        self.index = index


class InvalidRow(LookError):
    """No row as it is asked for."""

    def __init__(self, index):
        self.index = index


class InvalidRows(LookError):
    """No rows as they are asked for."""

    def __init__(self, index):
        self.index = index


class NotGoing(LookError):
    """A state that goes nowhere was to be moved."""


class NotClosed(LookError):
    """A table that is not closed was to be narrowed."""
