"""The errors of the whole package."""


class JointError(ValueError):
    """The base class of all errors that the package raises."""


class BadStructure(JointError):
    """A structure of groups is not as told, or not quiet or sound where this is asked."""


class BadModulus(JointError):
    """A modulus is not as told."""


class BadInputs(JointError):
    """The inputs of a program are not as told."""


class BadCoins(JointError):
    """The coins of a run are not as told, or too few."""


class BadGroup(JointError):
    """A group of people is not as told, or may not put their heads together."""


class BadLies(JointError):
    """The lies of a run are not as told."""


class BadTurn(JointError):
    """Two rows of inputs differ in the input of a member."""


class BadTalk(JointError):
    """A talk is not as told, or not for its table."""


class BadTable(JointError):
    """A table is not as told, or has a knot where none may be."""


class BadProgram(JointError):
    """A program is not good: row is the number of its first row that is not."""

    def __init__(self, row):
        super().__init__(f"row {row} of the program is not right")
        self.row = row


class BadText(JointError):
    """A text writes no program: place is the number of its first line that is not right."""

    def __init__(self, place):
        super().__init__(f"line {place} of the text is not right")
        self.place = place
