"""Shared: a file into which several write, one ENTRY behind the other."""

from tornlines.errors import Held, Nothing, OutOfPlace, TooGreat
from tornlines.framings import is_line, is_number, need_framing
from tornlines.readers import need_reader, strict, takes
from tornlines.weavings import MARKS, MOST_ENTRIES, is_entry, is_whole_line, line_places, text_put


def is_integer(thing):
    """Whether this is an integer."""
    return isinstance(thing, int) and not isinstance(thing, bool)


def need_many(thing):
    """The thing itself, a number of writers from 1 to 8; OutOfPlace of what is none."""
    if not is_number(thing, len(MARKS) + 1) or thing == 0:
        raise OutOfPlace("this is no number of writers from 1 to 8")
    return thing


def place_of(framing, entries, writer):
    """The STANDING of a writer behind ENTRIES."""
    place = 0
    for other, step in entries:
        if other == writer:
            place = framing[step][2]
    return place


def rows_read(framing, entries):
    """The READ LINES of a list of ENTRIES."""
    places = line_places(framing, entries)
    return [tuple(entries[low:high]) for low, high in zip(places, places[1:])]


class Pen:
    """What a block of hold gives: it writes for its writer until the block is over."""

    def __init__(self, file, writer):
        self.file = file
        self.writer = writer
        self.ended = False

    def __call__(self, step):
        if self.ended:
            raise OutOfPlace("the block is over")
        return self.file.write(self.writer, step)


class Hold:
    """For a with statement: in its block one writer alone can write."""

    def __init__(self, file, writer):
        self.file = file
        self.writer = writer
        self.pen = None

    def __enter__(self):
        if self.file.holder is not None:
            raise Held(self.file.holder)
        self.file.holder = self.writer
        self.pen = Pen(self.file, self.writer)
        return self.pen

    def __exit__(self, kind, value, trace):
        self.pen.ended = True
        self.file.holder = None


class Shared:
    """A file into which so many write; without a reader its lines are taken by the STRICT one."""

    def __init__(self, framing, writers=2, *, reader=None):
        self.framing = need_framing(framing)
        self.writers = need_many(writers)
        self.reader = strict(framing) if reader is None else need_reader(reader)
        self.entries = []
        self.rows = []
        self.holder = None

    def write(self, writer, step):
        """Puts an ENTRY; what it puts."""
        if not is_entry(self.framing, (writer, step), self.writers):
            raise OutOfPlace("this is no ENTRY of the file")
        if place_of(self.framing, self.entries, writer) != self.framing[step][0]:
            raise OutOfPlace("the writer stands elsewhere")
        if len(self.entries) >= MOST_ENTRIES:
            raise TooGreat(MOST_ENTRIES)
        if self.holder is not None and self.holder != writer:
            raise Held(self.holder)
        self.entries.append((writer, step))
        self.rows = rows_read(self.framing, self.entries)
        return text_put(self.framing, [(writer, step)])

    def hold(self, writer):
        """For a with statement: its block gives what is called with numbers of STEPS and writes these."""
        if not is_number(writer, self.writers):
            raise OutOfPlace("this is no writer of the file")
        return Hold(self, writer)

    @property
    def text(self):
        """The FILE."""
        return text_put(self.framing, self.entries)

    @property
    def weaving(self):
        """All ENTRIES."""
        return tuple(self.entries)

    def __len__(self):
        return len(self.rows)

    def __getitem__(self, at):
        if not is_integer(at) or not -len(self.rows) <= at < len(self.rows):
            raise OutOfPlace("there is no such READ LINE")
        return text_put(self.framing, self.rows[at])

    def __iter__(self):
        raise TypeError("READ LINES are asked for by their numbers")

    def __contains__(self, x):
        return isinstance(x, str) and x in [text_put(self.framing, row) for row in self.rows]

    def good(self):
        """The texts of the READ LINES that the reader TAKES."""
        texts = [text_put(self.framing, row) for row in self.rows]
        return tuple([text for text in texts if takes(self.reader, text)])

    def passed(self):
        """The numbers of the READ LINES that PASS."""
        numbers = []
        for number, row in enumerate(self.rows):
            if not is_whole_line(self.framing, row) and takes(self.reader, text_put(self.framing, row)):
                numbers.append(number)
        return tuple(numbers)

    def back(self, *, many=1):
        """Takes so many ENTRIES back."""
        if not is_integer(many) or many < 1:
            raise OutOfPlace("this is no integer from 1 on")
        if many > len(self.entries):
            raise Nothing("there are not so many ENTRIES")
        if self.holder is not None:
            raise Held(self.holder)
        self.entries = self.entries[:len(self.entries) - many]
        self.rows = rows_read(self.framing, self.entries)

    def copy(self):
        """One of the same ENTRIES that goes on by itself, held by nobody."""
        twin = Shared(self.framing, self.writers, reader=self.reader)
        twin.entries = list(self.entries)
        twin.rows = list(self.rows)
        return twin

    def __eq__(self, other):
        return (isinstance(other, Shared) and self.framing == other.framing and self.writers == other.writers
                and self.reader == other.reader and self.entries == other.entries)


def under(manager, deed):
    """What a deed returns, called in a with statement over a manager with what this gives."""
    with manager as one:
        return deed(one)


def held(shared, writer, line):
    """Writes a LINE within a block of hold; the texts that its STEPS put."""
    if not isinstance(shared, Shared):
        raise OutOfPlace("this is no Shared")
    block = shared.hold(writer)
    if not is_line(shared.framing, line):
        raise OutOfPlace("this is no LINE of the FRAMING")
    if place_of(shared.framing, shared.entries, writer) != 0:
        raise OutOfPlace("the writer is within a LINE")
    if len(shared.entries) + len(line) > MOST_ENTRIES:
        raise TooGreat(MOST_ENTRIES)
    with block as put:
        return tuple([put(step) for step in line])
