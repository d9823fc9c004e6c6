"""The errors of the package.

The messages spell out no field: an error may be made of any things, however long or deep these are.
"""


def message(text):
    """The text itself, or a word for what is no text: messages are strings."""
    if isinstance(text, str):
        return text
    return "out of place"


class BadFraming(ValueError):
    """What is passed as a FRAMING is none."""

    def __init__(self, number):
        ValueError.__init__(self, "this is no FRAMING (see the field number)")
        self.number = number


class BadReader(ValueError):
    """What is passed as a READER is none."""

    def __init__(self, part, number):
        ValueError.__init__(self, "this is no READER (see the fields part and number)")
        self.part = part
        self.number = number


class BadWeaving(ValueError):
    """What is passed as a WEAVING is none of the FRAMING."""

    def __init__(self, number):
        ValueError.__init__(self, "this is no WEAVING of the FRAMING (see the field number)")
        self.number = number


class BadPaper(ValueError):
    """A paper does not show what it should."""

    def __init__(self, part):
        ValueError.__init__(self, "this paper does not hold (see the field part)")
        self.part = part


class BadText(ValueError):
    """A text can't be read as a FRAMING."""

    def __init__(self, line, word):
        ValueError.__init__(self, "this text is no FRAMING (see the fields line and word)")
        self.line = line
        self.word = word


class OutOfPlace(ValueError):
    """An argument is wrong in another way."""

    def __init__(self, text):
        ValueError.__init__(self, message(text))


class TooGreat(OverflowError):
    """Something would have more parts than the most that it may have."""

    def __init__(self, most):
        OverflowError.__init__(self, "this would be too great (see the field most)")
        self.most = most


class Nothing(LookupError):
    """What is asked for is not there."""

    def __init__(self, text):
        LookupError.__init__(self, message(text))


class Held(RuntimeError):
    """A writer holds the file."""

    def __init__(self, writer):
        RuntimeError.__init__(self, "the file is held (see the field writer)")
        self.writer = writer
