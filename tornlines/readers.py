"""Readers: which lines they take."""

from tornlines.errors import BadReader, OutOfPlace
from tornlines.framings import SIGNS, is_number, need_framing
from tornlines.machines import MOST_STATES, spread, told_reader
from tornlines.weavings import MARKS

NOTHING_TAKEN = ((), ())


def is_rule(thing):
    """Whether this is a RULE by itself."""
    if not isinstance(thing, tuple) or len(thing) != 3:
        return False
    state, sign, goal = thing
    if not is_number(state, MOST_STATES) or not is_number(goal, MOST_STATES):
        return False
    return isinstance(sign, str) and len(sign) == 1 and sign in SIGNS


def need_reader(thing):
    """The thing itself, a READER; BadReader of what is none."""
    if not isinstance(thing, tuple) or len(thing) != 2:
        raise BadReader("form", None)
    rules, good = thing
    if not isinstance(rules, tuple) or not isinstance(good, tuple):
        raise BadReader("form", None)
    for number, rule in enumerate(rules):
        if not is_rule(rule) or (number > 0 and rule[:2] <= rules[number - 1][:2]):
            raise BadReader("rules", number)
    for number, state in enumerate(good):
        if not is_number(state, MOST_STATES) or (number > 0 and state <= good[number - 1]):
            raise BadReader("good", number)
    return thing


def rows_of(reader):
    """For each STATE that has RULES its signs, ascending, each with the STATE to which it leads."""
    rows = {}
    for state, sign, goal in reader[0]:
        row = rows.setdefault(state, {})
        row[sign] = goal
    return rows


def led(rows, state, signs):
    """The STATE to which signs lead from a STATE, or None."""
    place = state
    for sign in signs:
        place = rows.get(place, {}).get(sign)
    return place


def need_line_text(thing):
    """The thing itself, a text of signs and MARKS with `;` at its end alone; OutOfPlace of what is none."""
    if not isinstance(thing, str) or not thing.endswith(";"):
        raise OutOfPlace("this is no text of a line")
    if not all([sign in SIGNS or sign in MARKS for sign in thing[:-1]]):
        raise OutOfPlace("this sign can't stand in a line")
    return thing


def takes(reader, text):
    """Whether a READER TAKES the text of a line."""
    need_reader(reader)
    need_line_text(text)
    marks = [mark for mark in MARKS if mark in text]
    if len(marks) > 1 or (len(marks) == 1 and "@" in text):
        return False
    signs = ["@" if sign in MARKS else sign for sign in text[:-1]]
    return led(rows_of(reader), 0, signs) in reader[1]


def strict(framing):
    """The STRICT reader of a FRAMING; TooGreat if it had more than 200 STATES."""
    need_framing(framing)
    rows, good = spread(framing)
    return told_reader(rows, good)


def first_taken(reader):
    """The first text without MARKS that a READER TAKES, or None."""
    return parting(reader, NOTHING_TAKEN)


def parting(one, other):
    """The first text without MARKS that one of two READERs alone TAKES, or None."""
    need_reader(one)
    need_reader(other)
    rows, further_rows = rows_of(one), rows_of(other)
    found = {(0, 0): True}
    listed = [((0, 0), "")]
    while listed:
        # All texts here have as many signs, and they are ascending: so the first one that parts is the least.
        longer = []
        for (state, twin), text in listed:
            if (state in one[1]) != (twin in other[1]):
                return text + ";"
            row, twin_row = rows.get(state, {}), further_rows.get(twin, {})
            for sign in sorted(set(list(row) + list(twin_row))):
                pair = (row.get(sign), twin_row.get(sign))
                if pair not in found:
                    found[pair] = True
                    longer.append((pair, text + sign))
        listed = longer
    return None


def alike(one, other):
    """Whether two FRAMINGs are ALIKE; TooGreat if a STRICT reader had more than 200 STATES."""
    need_framing(one)
    need_framing(other)
    return strict(one) == strict(other)
