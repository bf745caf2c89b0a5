"""All errors of the package.

The constructors do not pass a message on: Python itself keeps what they are
passed by position, so that a message shows the very values.
"""


class VeilError(ValueError):
    """A value that cannot stand where it was passed."""


class Missing(LookupError):
    """Something that is not there."""


class Early(RuntimeError):
    """Something that was asked for before it was done."""


class InvalidName(VeilError):
    """A value that is no name."""

    def __init__(self, value):
        self.value = value
        self.code = "InvalidName"


class InvalidNumber(VeilError):
    """A value that is no number, or none within its bounds."""

    def __init__(self, value):
        self.value = value
        self.code = "InvalidNumber"


class InvalidText(VeilError):
    """A text with a line that cannot stand."""

    def __init__(self, line):
        self.line = line
        self.code = "InvalidText"


class BadSizes(VeilError):
    """Sizes of which one is out of its bounds."""

    def __init__(self, field):
        self.field = field
        self.code = "BadSizes"


class BadList(VeilError):
    """A list of numbers with a wrong length or a wrong item."""

    def __init__(self, at):
        self.at = at
        self.code = "BadList"


class BadBits(VeilError):
    """A row of bits with a wrong length or a wrong item."""

    def __init__(self, at):
        self.at = at
        self.code = "BadBits"


class BadWords(VeilError):
    """A list of words with a wrong length or a wrong item."""

    def __init__(self, at):
        self.at = at
        self.code = "BadWords"


class BadWeighing(VeilError):
    """Weights that are too few, too many or wrong."""

    def __init__(self, at):
        self.at = at
        self.code = "BadWeighing"


class BadTable(VeilError):
    """A table with a wrong length or a wrong item."""

    def __init__(self, at):
        self.at = at
        self.code = "BadTable"


class BadNet(VeilError):
    """Steps of a net of which one cannot stand."""

    def __init__(self, wire):
        self.wire = wire
        self.code = "BadNet"


class BadOutput(VeilError):
    """Outputs of a net of which one is no wire."""

    def __init__(self, at):
        self.at = at
        self.code = "BadOutput"


class BadCover(VeilError):
    """A list of covers with a wrong length or a wrong item."""

    def __init__(self, at):
        self.at = at
        self.code = "BadCover"


class BadLine(VeilError):
    """A line of a program that is wrong, and the word for it."""

    def __init__(self, line, why):
        self.line = line
        self.why = why
        self.code = "BadLine"


class BadDeed(VeilError):
    """A value that has not the form of a deed."""

    def __init__(self, at):
        self.at = at
        self.code = "BadDeed"


class TooMany(VeilError):
    """More than there may be."""

    def __init__(self, most):
        self.most = most
        self.code = "TooMany"


class NotAllowed(VeilError):
    """A weighing that is refused because of one of its rows."""

    def __init__(self, wire, row):
        self.wire = wire
        self.row = row
        self.code = "NotAllowed"


class NotRoomy(VeilError):
    """Sizes that are not roomy."""

    def __init__(self):
        self.code = "NotRoomy"


class Unlike(VeilError):
    """Objects whose sizes or widths are not all equal."""

    def __init__(self):
        self.code = "Unlike"


class Twice(VeilError):
    """A name that is there already."""

    def __init__(self, name):
        self.name = name
        self.code = "Twice"


class Clash(VeilError):
    """A wire for which there are unlike covers."""

    def __init__(self, wire):
        self.wire = wire
        self.code = "Clash"


class NoName(Missing):
    """A name that is not there."""

    def __init__(self, name):
        self.name = name
        self.code = "NoName"


class NoWire(Missing):
    """A value that is no wire of the kind that is asked for."""

    def __init__(self, wire):
        self.wire = wire
        self.code = "NoWire"


class NotReady(Early):
    """A wire whose cover is not there yet."""

    def __init__(self, wire):
        self.wire = wire
        self.code = "NotReady"


class NothingLeft(IndexError):
    """Nothing that could be taken back."""

    def __init__(self):
        self.code = "NothingLeft"
