"""The strict machine of a framing: where writing may stand behind each text, and the fewest states for this.

A place is one ahead of a sign of a PIECE; places are bits, and several of them a number.
"""

from tornlines.errors import TooGreat
from tornlines.framings import MANY_STANDINGS

MOST_STATES = 200
MOST_TRIALS = 256


def place_bits(framing):
    """The bit of each place; the place ahead of the sign at of the STEP number is (number, at)."""
    bits = {}
    for number, (start, piece, goal) in enumerate(framing):
        for at in range(len(piece)):
            bits[number, at] = 1 << len(bits)
    return bits


def sign_leads(framing):
    """The first places of a line, and for each sign the pairs of a place ahead of it and those behind."""
    bits = place_bits(framing)
    firsts = [0 for standing in range(MANY_STANDINGS)]
    for number, (start, piece, goal) in enumerate(framing):
        firsts[start] += bits[number, 0]
    leads = {}
    for number, (start, piece, goal) in enumerate(framing):
        for at, sign in enumerate(piece):
            further = bits.get((number, at + 1), firsts[goal])
            leads.setdefault(sign, []).append((bits[number, at], further))
    return firsts[0], leads


def places_behind(pairs, places):
    """The places to which a sign leads from these."""
    behind = 0
    for place, goals in pairs:
        if places & place != 0:
            behind |= goals
    return behind


def places_ahead(pairs, places):
    """The places from which a sign leads to one of these."""
    ahead = 0
    for place, goals in pairs:
        if places & goals != 0:
            ahead |= place
    return ahead


def trials_of(leads):
    """For some texts, shorter ones first, the places from which they lead to the end of a line."""
    ends = sum([place for place, goals in leads[";"]])
    signs = [sign for sign in sorted(leads) if sign != ";"]
    trials = [ends]
    found = {ends: True}
    at = 0
    while at < len(trials) and len(trials) < MOST_TRIALS:
        for sign in signs:
            ahead = places_ahead(leads[sign], trials[at])
            if ahead not in found:
                found[ahead] = True
                trials.append(ahead)
        at += 1
    return trials


def spread(framing):
    """A machine for the TEXTs of the LINES: for each state its (sign, state) pairs, and whether it is good.

    TooGreat if it is found here that each machine for them has more than 200 states.
    """
    first, leads = sign_leads(framing)
    signs = [sign for sign in sorted(leads) if sign != ";"]
    trials = trials_of(leads)
    numbers = {first: 0}
    listed = [first]
    unlike = {}
    rows = []
    good = []
    while len(rows) < len(listed):
        places = listed[len(rows)]
        # Sets of places that pass unlike trials are unlike states. This is counted here, as there may be too many
        # sets to list them all.
        passed = tuple([places & trial != 0 for trial in trials])
        unlike[passed] = True
        if len(unlike) > MOST_STATES:
            raise TooGreat(MOST_STATES)
        row = []
        for sign in signs:
            behind = places_behind(leads[sign], places)
            if behind != 0:
                if behind not in numbers:
                    numbers[behind] = len(listed)
                    listed.append(behind)
                row.append((sign, numbers[behind]))
        rows.append(tuple(row))
        good.append(passed[0])
    return rows, good


def merged(rows, good):
    """For each state of a machine a number, the same for those from which the same texts lead to good states.

    A state must lead to a good one. TooGreat if there are more than 200 numbers.
    """
    kinds = [int(flag) for flag in good]
    many = len(set(kinds))
    while True:
        numbers = {}
        finer = []
        for kind, row in zip(kinds, rows):
            key = (kind, tuple([(sign, kinds[state]) for sign, state in row]))
            finer.append(numbers.setdefault(key, len(numbers)))
        if len(numbers) > MOST_STATES:
            raise TooGreat(MOST_STATES)
        if len(numbers) == many:
            return finer
        kinds = finer
        many = len(numbers)


def told_reader(rows, good):
    """The READER with as few STATES as any that a machine makes, numbered as they are first come to."""
    kinds = merged(rows, good)
    numbers = {kinds[0]: 0}
    samples = [0]
    rules = []
    taken = []
    state = 0
    while state < len(samples):
        sample = samples[state]
        if good[sample]:
            taken.append(state)
        for sign, further in rows[sample]:
            if kinds[further] not in numbers:
                numbers[kinds[further]] = len(samples)
                samples.append(further)
            rules.append((state, sign, numbers[kinds[further]]))
        state += 1
    return (tuple(rules), tuple(taken))
