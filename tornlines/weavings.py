"""Weavings: what many writers put into one file, and the lines that are read in it."""

from tornlines.errors import BadWeaving, OutOfPlace
from tornlines.framings import is_number, need_framing

MARKS = "ABCDEFGH"
MOST_ENTRIES = 200


def is_entry(framing, thing, many):
    """Whether this is an ENTRY by itself, its writer one of so many."""
    if not isinstance(thing, tuple) or len(thing) != 2:
        return False
    return is_number(thing[0], many) and is_number(thing[1], len(framing))


def first_wrong(framing, things, begin):
    """The number of the first thing that is no ENTRY that can stand there, or None.

    All writers are at the STANDING begin at first, or anywhere if it is None.
    """
    places = [begin for mark in MARKS]
    for number, thing in enumerate(things):
        if not is_entry(framing, thing, len(MARKS)):
            return number
        writer, step = thing
        start, piece, goal = framing[step]
        if places[writer] is not None and places[writer] != start:
            return number
        places[writer] = goal
    return None


def need_weaving(framing, thing):
    """The thing itself, a WEAVING of a FRAMING; BadWeaving of what is none."""
    need_framing(framing)
    if not isinstance(thing, tuple) or len(thing) > MOST_ENTRIES:
        raise BadWeaving(None)
    number = first_wrong(framing, thing, 0)
    if number is not None:
        raise BadWeaving(number)
    return thing


def text_put(framing, entries):
    """The text that ENTRIES put, one behind the other."""
    return "".join([framing[step][1].replace("@", MARKS[writer]) for writer, step in entries])


def file_of(framing, weaving):
    """The FILE of a WEAVING."""
    need_weaving(framing, weaving)
    return text_put(framing, weaving)


def line_places(framing, entries):
    """The places at which READ LINES begin, and as the last one that of the REST."""
    return [0] + [at + 1 for at, (writer, step) in enumerate(entries) if framing[step][2] == 0]


def read_lines(framing, weaving):
    """The READ LINES of a WEAVING."""
    need_weaving(framing, weaving)
    places = line_places(framing, weaving)
    return tuple([weaving[low:high] for low, high in zip(places, places[1:])])


def rest_of(framing, weaving):
    """The REST of a WEAVING: its ENTRIES behind the last one that ENDS a line."""
    need_weaving(framing, weaving)
    places = line_places(framing, weaving)
    return weaving[places[-1]:]


def is_read_line(framing, thing):
    """Whether this can be a READ LINE, its writers standing anywhere at first."""
    if not isinstance(thing, tuple) or first_wrong(framing, thing, None) is not None:
        return False
    return line_places(framing, thing) == [0, len(thing)]


def is_whole_line(framing, entries):
    """Whether a READ LINE is WHOLE; OutOfPlace of what can be none."""
    need_framing(framing)
    if not is_read_line(framing, entries):
        raise OutOfPlace("this is no READ LINE of the FRAMING")
    first, step = entries[0]
    return framing[step][0] == 0 and all([writer == first for writer, further in entries])


def stands(framing, weaving):
    """The STANDINGS of the 8 writers at the end of a WEAVING."""
    need_weaving(framing, weaving)
    places = [0 for mark in MARKS]
    for writer, step in weaving:
        places[writer] = framing[step][2]
    return tuple(places)
