"""The errors of the package: each stands under CostError alone."""


class CostError(ValueError):
    """What all errors of this package have in common."""


class InvalidForm(CostError):
    """What was passed is no form of one to five rows."""

    def __init__(self, given):
        self.given = given


class InvalidTable(CostError):
    """What was passed is no positive form of one to five rows."""

    def __init__(self, given):
        self.given = given


class InvalidSolver(CostError):
    """What was passed is no table of as many rows as it has to have."""

    def __init__(self, given):
        self.given = given


class InvalidAid(CostError):
    """What was passed is no aid for the table."""

    def __init__(self, given):
        self.given = given


class InvalidShare(CostError):
    """What was passed is no fraction from 0 on, below 1."""

    def __init__(self, given):
        self.given = given


class InvalidNumber(CostError):
    """What was passed is no whole number of those that are let."""

    def __init__(self, given):
        self.given = given


class InvalidAmount(CostError):
    """What was passed is no fraction of those that are let."""

    def __init__(self, given):
        self.given = given


class InvalidLot(CostError):
    """What was passed is no lot of inner indexes."""

    def __init__(self, given):
        self.given = given


class InvalidSmoother(CostError):
    """What was passed is no smoother for the table."""

    def __init__(self, given):
        self.given = given


class InvalidWeight(CostError):
    """What was passed is no fraction above 0."""

    def __init__(self, given):
        self.given = given


class TooMany(CostError):
    """A method would have more aids than eight."""

    def __init__(self, given):
        self.given = given


class InvalidRow(CostError):
    """A row is no tuple of the told length, or an element of it is wrong."""

    def __init__(self, index):
        self.index = index


class InvalidRows(CostError):
    """Rows are no tuple of the told form, or one of them is wrong."""

    def __init__(self, index):
        self.index = index


class InvalidMethod(CostError):
    """A method is no tuple of the told form, or an aid of it is wrong."""

    def __init__(self, index):
        self.index = index


class InvalidSplit(CostError):
    """A split is no tuple of the told length, or a row of it is wrong."""

    def __init__(self, index):
        self.index = index


class InvalidLots(CostError):
    """Lots are no tuple of the told form, or one of them is wrong."""

    def __init__(self, index):
        self.index = index


class InvalidTeam(CostError):
    """A team is no tuple of the told form, or an element of it is wrong."""

    def __init__(self, index):
        self.index = index


class InvalidSpans(CostError):
    """Spans are no tuple of the told form, or one of them is wrong."""

    def __init__(self, index):
        self.index = index


class InvalidParts(CostError):
    """Parts are no tuple of the told length, or a row of them is wrong."""

    def __init__(self, index):
        self.index = index


class InvalidLadder(CostError):
    """A ladder is no tuple of the told length, or a pair of it is wrong."""

    def __init__(self, index):
        self.index = index


class NotWhole(CostError):
    """A method, a team or two spans are not whole."""


class NotSafe(CostError):
    """What comes is no smoother."""
