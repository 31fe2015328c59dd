"""The exceptions of the package.

The message of an exception never shows the values that were passed: a value may be
nested so that the same part occurs in it more often than can be written out.
"""


class ThreerimsError(ValueError):
    """The base class of all exceptions of the package."""


class InvalidPartition(ThreerimsError):
    """A value is not a partition."""

    def __init__(self, position=None):
        ThreerimsError.__init__(self, "not a partition")
        self.position = position


class InvalidArray(ThreerimsError):
    """A value is not an array, or not a concave array."""

    def __init__(self, row=None):
        ThreerimsError.__init__(self, "not an array of the required form")
        self.row = row


class InvalidVertex(ThreerimsError):
    """A value is not a vertex, or not the index of a row."""

    def __init__(self, value):
        ThreerimsError.__init__(self, "not a vertex or row of the triangle")
        self.value = value


class InvalidRhombus(ThreerimsError):
    """A value is not a rhombus of the triangle."""

    def __init__(self, value):
        ThreerimsError.__init__(self, "not a rhombus of the triangle")
        self.value = value


class InvalidTiling(ThreerimsError):
    """A value is not a tiling."""

    def __init__(self, index=None):
        ThreerimsError.__init__(self, "not a tiling")
        self.index = index


class InvalidPositions(ThreerimsError):
    """A value is not an ascending tuple of positions."""

    def __init__(self, border):
        ThreerimsError.__init__(self, "not an ascending tuple of positions")
        self.border = border


class InvalidSize(ThreerimsError):
    """A value is not a valid size."""

    def __init__(self, value):
        ThreerimsError.__init__(self, "not a valid size")
        self.value = value


class InvalidFactor(ThreerimsError):
    """A value is not a valid factor or amount."""

    def __init__(self, value):
        ThreerimsError.__init__(self, "not a valid factor or amount")
        self.value = value


class InvalidRank(ThreerimsError):
    """A value is not the rank of a solution."""

    def __init__(self, value):
        ThreerimsError.__init__(self, "not the rank of a solution")
        self.value = value


class InvalidAnswer(ThreerimsError):
    """An answer is not correct."""

    def __init__(self, part):
        ThreerimsError.__init__(self, "not a correct answer")
        self.part = part


class SizeMismatch(ThreerimsError):
    """Arguments have different sizes."""

    def __init__(self, sizes):
        ThreerimsError.__init__(self, "arguments of different sizes")
        self.sizes = sizes


class LimitExceeded(ThreerimsError):
    """Arguments exceed a limit."""

    def __init__(self, limit):
        ThreerimsError.__init__(self, "limit exceeded")
        self.limit = limit


class InvalidMatrix(ThreerimsError):
    """A value is not a matrix."""

    def __init__(self, value):
        ThreerimsError.__init__(self, "not a matrix")
        self.value = value


class InvalidPrime(ThreerimsError):
    """A value is not a prime that is allowed."""

    def __init__(self, value):
        ThreerimsError.__init__(self, "not an allowed prime")
        self.value = value


class InvalidIndex(ThreerimsError):
    """A value is not a valid choice of lines or columns, or has no order."""

    def __init__(self, value):
        ThreerimsError.__init__(self, "not a valid index or integer")
        self.value = value


class InvalidTableau(ThreerimsError):
    """A value is not a tableau of the required form."""

    def __init__(self, value):
        ThreerimsError.__init__(self, "not a tableau of the required form")
        self.value = value


class InvalidChain(ThreerimsError):
    """A value is not a chain."""

    def __init__(self, value):
        ThreerimsError.__init__(self, "not a chain")
        self.value = value


class InvalidCertificate(ThreerimsError):
    """A value is not a certificate."""

    def __init__(self, reason):
        ThreerimsError.__init__(self, "not a certificate")
        self.reason = reason


class InvalidName(ThreerimsError):
    """A value is not a name."""

    def __init__(self, value):
        ThreerimsError.__init__(self, "not a name")
        self.value = value


class BorderMismatch(ThreerimsError):
    """The borders of two arrays do not match."""

    def __init__(self, border):
        ThreerimsError.__init__(self, "borders that do not match")
        self.border = border


class SingularMatrix(ThreerimsError):
    """The determinant of a matrix is 0."""

    def __init__(self):
        ThreerimsError.__init__(self, "the determinant is 0")


class UnknownName(ThreerimsError):
    """A name is not in use."""

    def __init__(self, name):
        ThreerimsError.__init__(self, "unknown name")
        self.name = name


class DuplicateName(ThreerimsError):
    """A name is already in use."""

    def __init__(self, name):
        ThreerimsError.__init__(self, "duplicate name")
        self.name = name


class NothingToUndo(ThreerimsError):
    """There is no change that can be undone."""

    def __init__(self):
        ThreerimsError.__init__(self, "nothing to undo")


class ParseError(ThreerimsError):
    """A text is not the text of a catalogue."""

    def __init__(self, line, word):
        ThreerimsError.__init__(self, "not the text of a catalogue")
        self.line = line
        self.word = word
