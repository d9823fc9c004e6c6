"""Turned weavings: what becomes of lines when the file is exchanged for a new one."""

from tornlines.errors import BadWeaving, OutOfPlace
from tornlines.framings import need_framing
from tornlines.weavings import MARKS, MOST_ENTRIES, first_wrong, line_places, text_put

TURN = "turn"
COPY = "copy"
CUT = "cut"
BY_LINE = "line"
BY_PIECE = "piece"


def is_word(thing):
    """Whether this is a word that exchanges files."""
    return isinstance(thing, str) and thing in (TURN, COPY, CUT)


def need_turned(framing, thing):
    """The thing itself, a TURNED WEAVING of a FRAMING; BadWeaving of what is none."""
    need_framing(framing)
    if not isinstance(thing, tuple) or len(thing) > MOST_ENTRIES:
        raise BadWeaving(None)
    numbers = [number for number, part in enumerate(thing) if not is_word(part)]
    wrong = first_wrong(framing, [thing[number] for number in numbers], 0)
    if wrong is not None:
        raise BadWeaving(numbers[wrong])
    return thing


def need_manner(thing):
    """The thing itself, a MANNER; OutOfPlace of what is none."""
    if not isinstance(thing, str) or thing not in (BY_LINE, BY_PIECE):
        raise OutOfPlace("this is no manner")
    return thing


def filled(framing, thing, manner):
    """For each file the numbers that the ENTRIES which it has in the end have in a TURNED WEAVING."""
    rows = [[]]
    present = 0
    homes = [0 for mark in MARKS]
    for number, part in enumerate(thing):
        if part == TURN:
            present = len(rows)
            rows.append([])
        elif part == COPY:
            rows.append(list(rows[present]))
        elif part == CUT:
            rows[present] = []
        else:
            writer, step = part
            if manner == BY_PIECE or framing[step][0] == 0:
                homes[writer] = present
            rows[homes[writer]].append(number)
    return rows


def files(framing, thing, manner):
    """The texts of all files, by number."""
    need_turned(framing, thing)
    need_manner(manner)
    rows = filled(framing, thing, manner)
    return tuple([text_put(framing, [thing[number] for number in row]) for row in rows])


def ended_lines(framing, thing):
    """For each LINE that is ENDED the numbers of its ENTRIES, in the order of their ends."""
    begun = [() for mark in MARKS]
    lines = []
    for number, part in enumerate(thing):
        if not is_word(part):
            writer, step = part
            begun[writer] += (number,)
            if framing[step][2] == 0:
                lines.append(begun[writer])
                begun[writer] = ()
    return lines


def lines_read(framing, thing, row):
    """For each READ LINE of a file the numbers of its ENTRIES, if this row tells those of the file."""
    places = line_places(framing, [thing[number] for number in row])
    return [tuple(row[low:high]) for low, high in zip(places, places[1:])]


def fate(line, rows, lines):
    """The FATE of a LINE, if these are the numbers of the ENTRIES of each file, and those of each file's READ LINES."""
    many = len([read for read in lines if line in read])
    if many > 0:
        return "kept" if many == 1 else "doubled"
    if any([number in row for row in rows for number in line]):
        return "torn"
    return "lost"


def fates(framing, thing, manner):
    """The FATE of each LINE that is ENDED, in the order of their ends."""
    need_turned(framing, thing)
    need_manner(manner)
    rows = filled(framing, thing, manner)
    lines = [lines_read(framing, thing, row) for row in rows]
    return tuple([fate(line, rows, lines) for line in ended_lines(framing, thing)])
