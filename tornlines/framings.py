"""Framings: how lines are written, STEP by STEP."""

from tornlines.errors import BadFraming, OutOfPlace

SIGNS = "abcdefghijklmnopqrstuvwxyz0123456789@"
MOST_SIGNS = 8
MOST_STEPS = 16
MANY_STANDINGS = 6


def is_number(thing, many):
    """Whether this is an integer from 0 on that is below many."""
    return isinstance(thing, int) and not isinstance(thing, bool) and 0 <= thing < many


def is_piece(thing):
    """Whether this is a PIECE."""
    if not isinstance(thing, str) or not 1 <= len(thing) <= MOST_SIGNS:
        return False
    return all([sign in SIGNS for sign in thing.removesuffix(";")])


def is_step(thing):
    """Whether this is a STEP by itself."""
    if not isinstance(thing, tuple) or len(thing) != 3:
        return False
    start, piece, goal = thing
    if not is_number(start, MANY_STANDINGS) or not is_piece(piece) or not is_number(goal, MANY_STANDINGS):
        return False
    return piece.endswith(";") == (goal == 0)


def listed_standings(framing):
    """The STANDINGS that occur in STEPS, ascending."""
    return sorted({standing for start, piece, goal in framing for standing in (start, goal)})


def ways_from(framing, begin):
    """For each STANDING that STEPS lead to from begin, the first of the shortest ways with a STEP at least."""
    found = {}
    rows = [((), begin)]
    while rows:
        # Rows are ascending, and STEPS are tried in ascending order: so the first way found is the least one.
        further = []
        for way, standing in rows:
            for number, (start, piece, goal) in enumerate(framing):
                if start == standing and goal not in found:
                    found[goal] = way + (number,)
                    further.append((found[goal], goal))
        rows = further
    return found


def is_joined(framing):
    """Whether each STANDING can be reached from 0, and 0 from it."""
    reached = ways_from(framing, 0)
    for standing in listed_standings(framing):
        if standing not in reached or 0 not in ways_from(framing, standing):
            return False
    return True


def need_framing(thing):
    """The thing itself, a FRAMING; BadFraming of what is none."""
    if not isinstance(thing, tuple) or not 1 <= len(thing) <= MOST_STEPS:
        raise BadFraming(None)
    for number, step in enumerate(thing):
        if not is_step(step) or (number > 0 and step <= thing[number - 1]):
            raise BadFraming(number)
    if not is_joined(thing):
        raise BadFraming(-1)
    return thing


def standings(framing):
    """The STANDINGS of a FRAMING, ascending."""
    need_framing(framing)
    return tuple(listed_standings(framing))


def need_standing(framing, thing):
    """The thing itself, a STANDING of a FRAMING; OutOfPlace of what is none."""
    if not is_number(thing, MANY_STANDINGS) or thing not in listed_standings(framing):
        raise OutOfPlace("this is no STANDING of the FRAMING")
    return thing


def way_to(framing, standing):
    """The first of the shortest ways from 0 to a STANDING, as numbers of STEPS; empty for 0."""
    need_framing(framing)
    if need_standing(framing, standing) == 0:
        return ()
    return ways_from(framing, 0)[standing]


def line_from(framing, standing):
    """The first of the shortest ways from a STANDING to the end of a line, for 0 a LINE."""
    need_framing(framing)
    need_standing(framing, standing)
    return ways_from(framing, standing)[0]


def follows_as_line(framing, numbers):
    """Whether numbers of STEPS, one at least, lead from 0 to the end of a line, and no further."""
    standing = 0
    for at, number in enumerate(numbers):
        start, piece, goal = framing[number]
        if start != standing or (at > 0 and start == 0):
            return False
        standing = goal
    return standing == 0


def is_line(framing, thing):
    """Whether this is a LINE of a FRAMING."""
    need_framing(framing)
    if not isinstance(thing, tuple) or len(thing) == 0:
        return False
    if not all([is_number(number, len(framing)) for number in thing]):
        return False
    return follows_as_line(framing, thing)


def line_text(framing, line):
    """The TEXT of a LINE; OutOfPlace of what is no LINE."""
    if not is_line(framing, line):
        raise OutOfPlace("this is no LINE of the FRAMING")
    return "".join([framing[number][1] for number in line])
