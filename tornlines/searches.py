"""The search for a shortest PASSING.

A place is a triple: a STAND, the STANDINGS of the other writers that have put something, ascending, and whether some
writer began at 0. For any number of writers the two last ones do not count; they are () and True then.
"""

from tornlines.moves import BEGINNING, ends_line, lets_pass, moves_from, piece_leads


def place_behind(framing, place, move):
    """The place behind a move."""
    ahead, rest, begun = place
    step, told, stand = move
    start, piece, goal = framing[step]
    if told:
        return (stand, rest, begun or ahead == BEGINNING)
    others = list(rest)
    # One that is there already serves as well as a new one, who could still come later.
    if start in others:
        others.remove(start)
    if ahead[1] == "plain" and ahead != BEGINNING:
        others.append(ahead[2])
    if "@" not in piece:
        others.append(goal)
    return (stand, tuple(sorted(others)), begun or start == 0)


def many_needed(place):
    """How many writers there must be for this place, the one that has ENDED the line ahead counted."""
    stand, rest, begun = place
    return len(rest) + int(stand[1] != "free") + int(not begun)


def places_to(framing, place, moves, writers):
    """The moves that so many writers can make from a place, each with the place behind it."""
    if writers is None:
        return [(move, (move[2], (), True)) for move in moves]
    pairs = [(move, place_behind(framing, place, move)) for move in moves]
    return [(move, behind) for move, behind in pairs if many_needed(behind) <= writers]


def parts_of(rest):
    """All parts of an ascending tuple, itself and the empty one too, each once."""
    parts = {(): True}
    for standing in rest:
        for part in list(parts):
            parts[part + (standing,)] = True
    return list(parts)


def is_matched(found, place):
    """Whether a place that was found leads wherever this one leads, by as few ENTRIES and with as few writers."""
    if place in found:
        return True
    stand, rest, begun = place
    for part in parts_of(rest):
        if (stand, part, True) in found or (not begun and (stand, part, False) in found):
            return True
    return False


def way_back(found, place):
    """The moves that led to a place, from the first one on."""
    moves = []
    came = found[place]
    while came is not None:
        ahead, move = came
        moves.append(move)
        came = found[ahead]
    return moves[::-1]


def shortest(framing, reader, writers):
    """The moves of a shortest PASSING for so many writers, None for any number; None without one."""
    leads = piece_leads(framing, reader)
    start = (BEGINNING, (), writers is None)
    found = {start: None}
    rows = [start]
    while rows:
        further = []
        for place in rows:
            moves = moves_from(framing, leads, place[0])
            for move, behind in places_to(framing, place, moves, writers):
                if lets_pass(framing, reader, move):
                    return way_back(found, place) + [move]
                if not ends_line(framing, move) and not is_matched(found, behind):
                    found[behind] = (place, move)
                    further.append(behind)
        rows = further
    return None
