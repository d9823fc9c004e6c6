"""Marks: which PIECES must bear the MARK of their writer, and which lines a wary reader may take."""

from tornlines.errors import OutOfPlace, TooGreat
from tornlines.framings import MOST_SIGNS, is_number, need_framing
from tornlines.machines import told_reader
from tornlines.mixtures import trimmed, wary_spread
from tornlines.passings import is_safe, need_writers
from tornlines.readers import NOTHING_TAKEN, rows_of, strict

MOST_CHOSEN = 8
MOST_WARY_STEPS = 10


def is_choice(framing, thing):
    """Whether this is an ascending tuple of numbers of STEPS that are not MARKED."""
    if not isinstance(thing, tuple):
        return False
    for at, number in enumerate(thing):
        if not is_number(number, len(framing)) or "@" in framing[number][1]:
            return False
        if at > 0 and number <= thing[at - 1]:
            return False
    return True


def need_choice(framing, thing):
    """The thing itself, numbers of STEPS whose PIECES can be MARKED; OutOfPlace of what is none."""
    if not is_choice(framing, thing):
        raise OutOfPlace("these are no ascending numbers of STEPS that are not MARKED")
    if any([len(framing[number][1]) == MOST_SIGNS for number in thing]):
        raise OutOfPlace("a PIECE would have more than 8 signs")
    return thing


def marked_at(framing, steps):
    """The FRAMING MARKED AT these STEPS."""
    if len(steps) == 0:
        return framing
    rows = []
    for number, (start, piece, goal) in enumerate(framing):
        rows.append((start, "@" + piece if number in steps else piece, goal))
    return tuple(sorted(set(rows)))


def marked(framing, steps):
    """The FRAMING MARKED AT these STEPS; OutOfPlace if it can't be."""
    need_framing(framing)
    need_choice(framing, steps)
    return marked_at(framing, steps)


def guards(framing, steps, writers):
    """Whether these STEPS, if they are MARKED, make a FRAMING SAFE with its own STRICT reader."""
    further = marked_at(framing, steps)
    return is_safe(further, strict(further), writers)


def is_guard(framing, steps, writers=None):
    """Whether these STEPS are a GUARD for so many writers, None for any number."""
    need_framing(framing)
    need_choice(framing, steps)
    need_writers(writers)
    return guards(framing, steps, writers)


def choices(numbers, many):
    """All choices of so many of ascending numbers, ascending."""
    rows = [()]
    for size in range(many):
        rows = [row + (number,) for row in rows for number in numbers if size == 0 or number > row[-1]]
    return rows


def fewest_marks(framing, writers=None):
    """The first of the GUARDs with as few STEPS as any for so many writers, None for any number; None without one."""
    need_framing(framing)
    need_writers(writers)
    free = tuple([number for number, step in enumerate(framing) if "@" not in step[1]])
    if len(free) > MOST_CHOSEN:
        raise TooGreat(MOST_CHOSEN)
    need_choice(framing, free)
    for many in range(len(free) + 1):
        for steps in choices(free, many):
            if guards(framing, steps, writers):
                return steps
    return None


def wary(framing):
    """The WARY reader of a FRAMING of at most 10 STEPS; TooGreat if it had more than 200 STATES."""
    need_framing(framing)
    if len(framing) > MOST_WARY_STEPS:
        raise TooGreat(MOST_WARY_STEPS)
    rows, good = wary_spread(framing)
    if True not in good:
        return NOTHING_TAKEN
    rows, good = trimmed(rows, good)
    return told_reader(rows, good)


def rests_from(framing, standing):
    """The PIECES that can be put at a STANDING, each with the STANDING behind it."""
    return [(piece, goal) for start, piece, goal in framing if start == standing]


def longer(framing, rows, found, texts):
    """The places that are not found one sign further on from these, each with the least text to it."""
    further = {}
    for (rest, standing, state), text in texts.items():
        behind = rows.get(state, {}).get(rest[0])
        rests = [(rest[1:], standing)] if len(rest) > 1 else rests_from(framing, standing)
        for piece, goal in rests:
            place = (piece, goal, behind)
            if place not in found:
                further[place] = min(text + rest[0], further.get(place, text + rest[0]))
    return further


def lost_text(framing):
    """The first TEXT of a LINE that the WARY reader does not take, or None."""
    reader = wary(framing)
    rows = rows_of(reader)
    # A place is what of a PIECE is still to come, the STANDING behind it and the STATE of the reader; all texts to the
    # places of one round have as many signs.
    texts = {(piece, goal, 0): "" for piece, goal in rests_from(framing, 0)}
    found = {}
    while texts:
        lost = [text for (rest, goal, state), text in texts.items() if rest == ";" and state not in reader[1]]
        if lost:
            return min(lost) + ";"
        for place in texts:
            found[place] = True
        going = {place: texts[place] for place in texts if place[0] != ";"}
        texts = longer(framing, rows, found, going)
    return None
