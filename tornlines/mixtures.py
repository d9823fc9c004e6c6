"""The wary machine of a framing: it takes the texts of whole lines that are those of no mixed line.

A node is where writing stands between two PIECES: for a whole line, a STANDING; for one that may yet be mixed, the KIND
and the STANDING of a STAND. Ways are for each node the pairs of a PIECE and the node behind it. A place is what of a
PIECE is still to come, and the node behind; places are bits, and several of them a number.
"""

from tornlines.errors import TooGreat
from tornlines.machines import MOST_STATES, MOST_TRIALS, places_ahead, places_behind
from tornlines.moves import BEGINNING, MIXED_KINDS, ends_line, moves_from

WHOLE_END = ("whole", 0)
MIXED_END = ("mixed", 0)
WHOLE_BIT = 1
MIXED_BIT = 2
FIRST_BIT = 4


def whole_ways(framing):
    """The ways of lines that one writer puts."""
    ways = {}
    for start, piece, goal in framing:
        behind = WHOLE_END if goal == 0 else ("line", goal)
        ways.setdefault(("line", start), []).append((piece, behind))
    return ways


def mixed_ways(framing):
    """The ways of lines that any number of writers put, with marks of one at most; only mixed ones come to an end."""
    # One state is as good as another here: moves are asked only for what they make of KIND and STANDING.
    leads = [[0] for step in framing]
    ways = {}
    listed = [BEGINNING]
    while listed:
        stand = listed.pop()
        row = ways.setdefault(stand[1:], [])
        for move in moves_from(framing, leads, stand):
            piece, behind = framing[move[0]][1], move[2]
            if not ends_line(framing, move):
                row.append((piece, behind[1:]))
                if behind[1:] not in ways:
                    ways[behind[1:]] = []
                    listed.append(behind)
            elif behind[1] in MIXED_KINDS:
                row.append((piece, MIXED_END))
    return ways


def rest_bits(ways):
    """The bit of each place."""
    bits = {}
    for node in ways:
        for piece, behind in ways[node]:
            for at in range(len(piece)):
                bits.setdefault((piece[at:], behind), FIRST_BIT << len(bits))
    return bits


def rest_leads(ways, bits):
    """The first places of a line, and for each sign the pairs of a place ahead of it and those behind."""
    firsts = {WHOLE_END: WHOLE_BIT, MIXED_END: MIXED_BIT}
    for node in ways:
        firsts[node] = 0
        for way in ways[node]:
            firsts[node] |= bits[way]
    leads = {}
    for rest, behind in bits:
        goals = bits[rest[1:], behind] if len(rest) > 1 else firsts[behind]
        leads.setdefault(rest[0], []).append((bits[rest, behind], goals))
    return firsts["line", 0] | firsts[BEGINNING[1:]], leads


def bits_of(places):
    """The bits of a number, each by itself."""
    bits = []
    rest = places
    while rest != 0:
        bits.append(rest & -rest)
        rest -= bits[-1]
    return bits


def matching(leads):
    """For each place others that match it, itself too.

    By each text by which it leads to the mixed end, these do, too; by each one by which it leads to the whole end,
    they lead to that or to the mixed one.
    """
    matches = {WHOLE_BIT: WHOLE_BIT | MIXED_BIT, MIXED_BIT: MIXED_BIT}
    for sign in leads:
        for place, goals in leads[sign]:
            matches[place] = sum([other for other, further in leads[sign]])
    changed = True
    while changed:
        changed = False
        for sign in leads:
            for place, goals in leads[sign]:
                fewer = matches[place]
                for goal in bits_of(goals):
                    fewer &= places_ahead(leads[sign], matches[goal])
                if fewer != matches[place]:
                    matches[place] = fewer
                    changed = True
    return matches


def spares_of(leads):
    """For each place those beside which it may be left out."""
    matches = matching(leads)
    spares = {}
    for place in matches:
        # Of places that match one another the least bit is kept.
        spares[place] = sum([other for other in bits_of(matches[place])
                             if other < place or (other > place and matches[other] & place == 0)])
    return spares


def kept(spares, places):
    """These places without those that may be left out beside the others."""
    return sum([place for place in bits_of(places) if spares[place] & places == 0])


def wary_trials(leads):
    """For some texts, shorter ones first, from which places they lead to the whole end, and from which to the other."""
    ends = leads[";"]
    trials = [(places_ahead(ends, WHOLE_BIT), places_ahead(ends, MIXED_BIT))]
    found = {trials[0]: True}
    signs = [sign for sign in sorted(leads) if sign != ";"]
    at = 0
    while at < len(trials) and len(trials) < MOST_TRIALS:
        whole, mixed = trials[at]
        for sign in signs:
            ahead = (places_ahead(leads[sign], whole), places_ahead(leads[sign], mixed))
            if ahead not in found:
                found[ahead] = True
                trials.append(ahead)
        at += 1
    return trials


def passed_trials(trials, places):
    """For each trial whether its text leads from these places to the whole end and not to the mixed one."""
    return tuple([places & whole != 0 and places & mixed == 0 for whole, mixed in trials])


def wary_spread(framing):
    """A machine of the texts to be taken: for each state its (sign, state) pairs, and whether it is good.

    TooGreat if it is found here that each machine for them has more than 200 states.
    """
    ways = {**whole_ways(framing), **mixed_ways(framing)}
    bits = rest_bits(ways)
    whole = sum([bits[place] for place in bits if place[1] == WHOLE_END or place[1][0] == "line"])
    first, leads = rest_leads(ways, bits)
    spares = spares_of(leads)
    signs = [sign for sign in sorted(leads) if sign != ";"]
    trials = wary_trials(leads)
    listed = [kept(spares, first)]
    numbers = {listed[0]: 0}
    unlike = {}
    rows = []
    while len(rows) < len(listed):
        places = listed[len(rows)]
        unlike[passed_trials(trials, places)] = True
        if len(unlike) > MOST_STATES + 1:
            raise TooGreat(MOST_STATES)
        row = []
        for sign in signs:
            behind = kept(spares, places_behind(leads[sign], places))
            # Where no whole line goes on nothing can be taken any more.
            if behind & whole != 0:
                if behind not in numbers:
                    numbers[behind] = len(listed)
                    listed.append(behind)
                row.append((sign, numbers[behind]))
        rows.append(row)
    return rows, [passed_trials(trials[:1], places)[0] for places in listed]


def leading(rows, good):
    """For each state of a machine whether it leads to a good one."""
    ahead = [[] for row in rows]
    for state, row in enumerate(rows):
        for sign, further in row:
            ahead[further].append(state)
    found = list(good)
    listed = [state for state, flag in enumerate(good) if flag]
    while listed:
        state = listed.pop()
        for before in ahead[state]:
            if not found[before]:
                found[before] = True
                listed.append(before)
    return found


def trimmed(rows, good):
    """A machine without the states that lead to no good one."""
    found = leading(rows, good)
    numbers = {}
    for state, flag in enumerate(found):
        if flag:
            numbers[state] = len(numbers)
    left = [tuple([(sign, numbers[further]) for sign, further in rows[state] if found[further]]) for state in numbers]
    return left, [good[state] for state in numbers]
