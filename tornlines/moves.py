"""How a READ LINE goes on from a STAND, whoever of any number of writers puts the next ENTRY.

A move is a triple: the number of a STEP, whether its writer is the one that the STAND tells, and what it leads to.
This is a STAND, too, of the same form where the STEP ENDS the line: by its KIND the line is MIXED or not.
"""

from tornlines.machines import MOST_STATES
from tornlines.readers import led, rows_of

BEGINNING = (0, "plain", 0)
MIXED_KINDS = ("free", "owned")


def piece_leads(framing, reader):
    """For each STEP the STATE to which its PIECE, without `;`, leads from each STATE, or None."""
    rows = rows_of(reader)
    leads = []
    for start, piece, goal in framing:
        signs = piece.removesuffix(";")
        leads.append([led(rows, state, signs) for state in range(MOST_STATES)])
    return leads


def may_be_told(stand, start):
    """Whether the writer that a STAND tells can put a STEP from here."""
    return stand[1] != "free" and stand[2] == start


def may_be_another(stand, start):
    """Whether another writer than the one that a STAND tells can put a STEP from here."""
    return stand != BEGINNING or start != 0


def kind_behind(stand, told, step):
    """The KIND and the STANDING behind a STEP of the writer that a STAND tells, or of another; None if it can't be."""
    state, kind, standing = stand
    start, piece, goal = step
    marked = "@" in piece
    if told:
        if marked and kind == "plain":
            return ("marked", goal)
        return (kind, goal)
    if marked:
        if kind in ("plain", "free"):
            return ("owned", goal)
        return None
    if kind in ("marked", "owned"):
        return ("owned", standing)
    return ("free", 0)


def moves_from(framing, leads, stand):
    """All moves from a STAND."""
    moves = []
    for number, step in enumerate(framing):
        behind = leads[number][stand[0]]
        for told, can in ((True, may_be_told(stand, step[0])), (False, may_be_another(stand, step[0]))):
            kind = kind_behind(stand, told, step)
            if can and behind is not None and kind is not None:
                moves.append((number, told, (behind, kind[0], kind[1])))
    return moves


def ends_line(framing, move):
    """Whether the STEP of a move ENDS the line."""
    return framing[move[0]][2] == 0


def lets_pass(framing, reader, move):
    """Whether a move ENDS a line that is MIXED and that the READER TAKES."""
    state, kind, standing = move[2]
    return ends_line(framing, move) and kind in MIXED_KINDS and state in reader[1]
