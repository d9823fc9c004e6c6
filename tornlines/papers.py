"""Papers that show that a FRAMING is SAFE for any number of writers."""

from tornlines.errors import BadPaper, OutOfPlace
from tornlines.framings import MANY_STANDINGS, is_number, listed_standings, need_framing
from tornlines.machines import MOST_STATES
from tornlines.moves import BEGINNING, ends_line, lets_pass, moves_from, piece_leads
from tornlines.readers import need_reader

TOLD_KINDS = ("plain", "marked", "owned")


def safety(framing, reader):
    """The paper with as few STANDS as any; OutOfPlace of a FRAMING that is not SAFE for any number of writers."""
    need_framing(framing)
    need_reader(reader)
    leads = piece_leads(framing, reader)
    found = {BEGINNING: True}
    listed = [BEGINNING]
    while listed:
        moves = moves_from(framing, leads, listed.pop())
        if any([lets_pass(framing, reader, move) for move in moves]):
            raise OutOfPlace("the FRAMING is not SAFE with this READER")
        for move in moves:
            if not ends_line(framing, move) and move[2] not in found:
                found[move[2]] = True
                listed.append(move[2])
    return tuple(sorted(found))


def is_stand(thing, places):
    """Whether this is a STAND, if these are the STANDINGS other than 0."""
    if not isinstance(thing, tuple) or len(thing) != 3:
        return False
    state, kind, standing = thing
    if not is_number(state, MOST_STATES) or not isinstance(kind, str) or not is_number(standing, MANY_STANDINGS):
        return False
    if kind == "free":
        return standing == 0
    return thing == BEGINNING or (kind in TOLD_KINDS and standing in places)


def is_form(framing, paper):
    """Whether a paper is an ascending tuple of unlike STANDS."""
    if not isinstance(paper, tuple):
        return False
    places = [standing for standing in listed_standings(framing) if standing != 0]
    for number, thing in enumerate(paper):
        if not is_stand(thing, places) or (number > 0 and thing <= paper[number - 1]):
            return False
    return True


def check_safety(framing, reader, paper):
    """True of a paper that a FRAMING is SAFE for any number of writers; BadPaper of what shows nothing."""
    need_framing(framing)
    need_reader(reader)
    if not is_form(framing, paper):
        raise BadPaper("form")
    if BEGINNING not in paper:
        raise BadPaper("begin")
    leads = piece_leads(framing, reader)
    moves = [move for stand in paper for move in moves_from(framing, leads, stand)]
    listed = {stand: True for stand in paper}
    if not all([ends_line(framing, move) or move[2] in listed for move in moves]):
        raise BadPaper("step")
    if any([lets_pass(framing, reader, move) for move in moves]):
        raise BadPaper("end")
    return True
