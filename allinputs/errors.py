"""The errors of the package: each has its fields as attributes, as they were passed."""


class SheetError(ValueError):
    """Any error that the package tells."""


class BadValue(SheetError):
    """An argument, or an item of one, is not as it is described."""

    def __init__(self, value):
        self.value = value


class NoDivisor(SheetError):
    """Something would be divided by 0."""


class NotTold(SheetError):
    """What is asked for is not told."""


class TooHigh(SheetError):
    """A curve has too high a degree, or a number has too many digits."""

    def __init__(self, most):
        self.most = most


class TooMany(SheetError):
    """There are more of them than there may be."""

    def __init__(self, most):
        self.most = most


class NotAFormula(SheetError):
    """A text is no text of a formula."""

    def __init__(self, at):
        self.at = at


class NotANumber(SheetError):
    """No number can be read from a text."""

    def __init__(self, at):
        self.at = at


class NotAFormat(SheetError):
    """A text is no format text."""

    def __init__(self, at):
        self.at = at


class NotAName(SheetError):
    """A text is not the name, or the place, that it should be."""

    def __init__(self, name):
        self.name = name


class OffGrid(SheetError):
    """A cell would not be on the grid of a sheet."""

    def __init__(self, row, column):
        self.row = row
        self.column = column


class Unknown(SheetError):
    """Nothing is called so."""

    def __init__(self, name):
        self.name = name


class Taken(SheetError):
    """Something else is called so."""

    def __init__(self, name):
        self.name = name


class BadFile(SheetError):
    """A text of rows, or of a book, is none."""

    def __init__(self, line, at):
        self.line = line
        self.at = at


class BadPromise(SheetError):
    """A text is no promise."""

    def __init__(self, promise):
        self.promise = promise


class Broken(SheetError):
    """A promise does not hold."""

    def __init__(self, promise, where):
        self.promise = promise
        self.where = where


class NotMade(SheetError):
    """There is no such promise."""

    def __init__(self, promise):
        self.promise = promise


class NothingToUndo(SheetError):
    """All is taken back."""


class NothingToRedo(SheetError):
    """Nothing is taken back."""


class Turns(SheetError):
    """What is asked is not the same all over a span: it may turn at the roots of a poly."""

    def __init__(self, poly):
        self.poly = poly
