"""Passings: mixed lines that a reader takes."""

from tornlines.errors import BadPaper, OutOfPlace, TooGreat
from tornlines.framings import MANY_STANDINGS, is_number, line_from, listed_standings, need_framing, way_to
from tornlines.readers import led, need_reader, rows_of
from tornlines.searches import shortest
from tornlines.weavings import MARKS, MOST_ENTRIES, is_entry

MOST_TOLD = 5


def need_writers(thing):
    """The thing itself, a number of writers or None for any number; OutOfPlace of what is neither."""
    if thing is not None and (not is_number(thing, MOST_TOLD + 1) or thing == 0):
        raise OutOfPlace("this is no number of writers from 1 to 5")
    return thing


def many_meant(begins):
    """How many writers there must be if these begin, the one that has ENDED the line ahead counted."""
    return len(begins) + int(0 not in begins)


def named(framing, moves):
    """The PASSING of some moves: its writers are numbered as they come."""
    begins = []
    places = []
    entries = []
    one = None
    for step, told, stand in moves:
        start, piece, goal = framing[step]
        writer = one
        if not told or one is None:
            # As few writers as can be: the search for so many counts on it.
            others = [number for number, place in enumerate(places) if place == start and number != one]
            writer = others[0] if others else len(begins)
        if writer == len(begins):
            begins.append(start)
            places.append(start)
        places[writer] = goal
        entries.append((writer, step))
        if stand[1] == "free":
            one = None
        elif told or "@" in piece:
            one = writer
    return (tuple(begins), tuple(entries))


def shown_passing(framing, reader, writers):
    """A PASSING with as few ENTRIES as any for so many writers, or None."""
    moves = shortest(framing, reader, writers)
    if moves is None:
        return None
    return named(framing, moves)


def passing(framing, reader, writers=None):
    """A PASSING with as few ENTRIES as any for so many writers, None for any number; None if the FRAMING is SAFE."""
    need_framing(framing)
    need_reader(reader)
    need_writers(writers)
    shown = shown_passing(framing, reader, None)
    if shown is not None and writers is not None and many_meant(shown[0]) > writers:
        return shown_passing(framing, reader, writers)
    return shown


def is_safe(framing, reader, writers=None):
    """Whether a FRAMING is SAFE with a READER for so many writers, None for any number."""
    return passing(framing, reader, writers) is None


def fewest_writers(framing, reader):
    """The least number of writers for which a FRAMING is not SAFE, 6 for six or more; None if it is for any number."""
    shown = passing(framing, reader)
    if shown is None:
        return None
    enough = many_meant(shown[0])
    for writers in range(2, MOST_TOLD + 1):
        if writers == enough or not is_safe(framing, reader, writers):
            return writers
    return MOST_TOLD + 1


def need_form(paper):
    """BadPaper of what is no pair of two tuples."""
    if not isinstance(paper, tuple) or len(paper) != 2:
        raise BadPaper("form")
    if not isinstance(paper[0], tuple) or not isinstance(paper[1], tuple):
        raise BadPaper("form")


def are_standings(framing, begins):
    """Whether all of these are STANDINGS of a FRAMING."""
    places = listed_standings(framing)
    return all([is_number(thing, MANY_STANDINGS) and thing in places for thing in begins])


def are_entries(framing, begins, entries):
    """Whether ENTRIES are those of a line whose writers stand so when it begins."""
    places = list(begins)
    come = 0
    for at, thing in enumerate(entries):
        if not is_entry(framing, thing, len(begins)):
            return False
        writer, step = thing
        start, piece, goal = framing[step]
        if writer > come or places[writer] != start or (goal == 0) != (at == len(entries) - 1):
            return False
        come = max(come, writer + 1)
        places[writer] = goal
    return len(entries) > 0 and come == len(begins)


def is_taken(framing, reader, entries):
    """Whether the READER TAKES what ENTRIES put, the MARKS of unlike writers being unlike."""
    marking = [writer for writer, step in entries if "@" in framing[step][1]]
    if len(set(marking)) > 1:
        return False
    text = "".join([framing[step][1] for writer, step in entries])
    return led(rows_of(reader), 0, text.removesuffix(";")) in reader[1]


def check_passing(framing, reader, writers, paper):
    """True of a PASSING for so many writers, None for any number; BadPaper of what is none."""
    need_framing(framing)
    need_reader(reader)
    need_writers(writers)
    need_form(paper)
    begins, entries = paper
    if not are_standings(framing, begins):
        raise BadPaper("begins")
    if writers is not None and many_meant(begins) > writers:
        raise BadPaper("begins")
    if not are_entries(framing, begins, entries):
        raise BadPaper("entries")
    if begins == (0,):
        raise BadPaper("whole")
    if not is_taken(framing, reader, entries):
        raise BadPaper("text")
    return True


def ahead_of(framing, begins):
    """ENTRIES that bring writers from 0 to these STANDINGS, and END a line if any is needed; as few as can be."""
    entries = []
    for writer, standing in enumerate(begins):
        entries.extend([(writer, step) for step in way_to(framing, standing)])
    if entries:
        # Only one that is at 0 when the READ LINE begins can have ENDED the one ahead of it.
        ender = begins.index(0) if 0 in begins else len(begins)
        entries.extend([(ender, step) for step in line_from(framing, 0)])
    return tuple(entries)


def woven(framing, paper):
    """A WEAVING whose last READ LINE is that of a PASSING."""
    need_framing(framing)
    need_form(paper)
    begins, entries = paper
    if not are_standings(framing, begins):
        raise BadPaper("begins")
    if not are_entries(framing, begins, entries):
        raise BadPaper("entries")
    if many_meant(begins) > len(MARKS):
        raise TooGreat(len(MARKS))
    weaving = ahead_of(framing, begins) + entries
    if len(weaving) > MOST_ENTRIES:
        raise TooGreat(MOST_ENTRIES)
    return weaving
