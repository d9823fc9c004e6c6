"""What the document tells, word by word and slowly, to hold the program against it."""

import random

from tornlines.errors import BadFraming
from tornlines.framings import need_framing

SIGNS = "0123456789@abcdefghijklmnopqrstuvwxyz"


def random_framing(dice, signs="ab@", steps=6, standings=3, most=2, ends=("", "a", "b", "@")):
    """Some framing of at most so many steps and standings, its pieces of at most so many signs."""
    while True:
        listed = set()
        for _ in range(dice.randint(1, steps)):
            start, goal = dice.randrange(standings), dice.randrange(standings)
            piece = "".join(dice.choice(signs) for _ in range(dice.randint(1, most)))
            listed.add((start, dice.choice(ends) + ";" if goal == 0 else piece, goal))
        try:
            return need_framing(tuple(sorted(listed)))
        except BadFraming:
            pass


def random_reader(dice, signs="ab@", states=5):
    """Some reader of at most so many states."""
    many = dice.randint(1, states)
    rules = {(state, sign): dice.randrange(many)
             for state in range(many) for sign in signs if dice.random() < 0.8}
    good = tuple(state for state in range(many) if dice.random() < 0.4)
    return (tuple((state, sign, goal) for (state, sign), goal in sorted(rules.items())), good)


def places_behind(framing, places, sign):
    """From places (standing, rest of a piece) those behind a sign; a new piece may begin at a standing."""
    found = set()
    for standing, rest in places:
        for start, piece, goal in framing:
            if rest == "" and start == standing and piece[0] == sign:
                found.add((goal, piece[1:]))
        if rest and rest[0] == sign:
            found.add((standing, rest[1:]))
    return frozenset(found)


def first_places(framing):
    return frozenset({(0, "")})


def is_text(framing, text):
    """Whether this is the text of a line."""
    places = first_places(framing)
    for sign in text[:-1]:
        places = places_behind(framing, places, sign)
    return text[-1] == ";" and bool(places_behind(framing, places, ";"))


def all_states(framing):
    """All sets of places that texts without an end lead to, but the empty one: their rules, and if they are good."""
    rows = {}
    listed = [first_places(framing)]
    while listed:
        places = listed.pop()
        if places in rows:
            continue
        rows[places] = {}
        for sign in SIGNS:
            further = places_behind(framing, places, sign)
            if further:
                rows[places][sign] = further
                listed.append(further)
    return rows, {places: bool(places_behind(framing, places, ";")) for places in rows}


def many_unlike(rows, good):
    """How many states of a machine are unlike, if the end can be reached from all of them."""
    kinds = {state: good[state] for state in rows}
    many = len(set(kinds.values()))
    while True:
        kinds = {state: (kinds[state], tuple(sorted((sign, kinds[goal]) for sign, goal in rows[state].items())))
                 for state in rows}
        numbers = {}
        for state in rows:
            kinds[state] = numbers.setdefault(kinds[state], len(numbers))
        if len(numbers) == many:
            return many
        many = len(numbers)


def first_texts(reader):
    """The states of a reader that can be reached, each with the first text that leads to it; by their texts."""
    found = {0: ""}
    row = [0]
    while row:
        further = []
        for state in row:
            for start, sign, goal in reader[0]:
                if start == state and goal not in found:
                    found[goal] = found[state] + sign
                    further.append(goal)
        row = further
    return found


def taken(reader, text):
    """Whether a reader takes a text without marks."""
    rules = {(state, sign): goal for state, sign, goal in reader[0]}
    state = 0
    for sign in text[:-1]:
        state = rules.get((state, sign))
    return state in reader[1]


def begins_of(framing, writers):
    """All begins for so many writers."""
    places = sorted({standing for start, piece, goal in framing for standing in (start, goal)})
    rows = [()]
    for _ in range(writers):
        rows = [row + (place,) for row in rows for place in places]
        for row in rows:
            if len(row) < writers or 0 in row:
                yield row


def fewest_entries(framing, reader, writers, most=None):
    """How many entries the shortest passings for so many writers have, or None; begin by begin, as [8] tells it."""
    best = most
    for begins in begins_of(framing, writers):
        best = fewest_from(framing, reader, begins, best)
    return best if best != most else None


def fewest_from(framing, reader, begins, best):
    rules = {(state, sign): goal for state, sign, goal in reader[0]}
    rows = {(0, begins, 0, None)}
    found = set(rows)
    size = 0
    while rows and (best is None or size + 1 < best):
        size += 1
        further = set()
        for state, places, come, marker in rows:
            for writer in range(min(come + 1, len(begins))):
                for start, piece, goal in framing:
                    if start != places[writer] or ("@" in piece and marker not in (None, writer)):
                        continue
                    behind = state
                    for sign in piece.removesuffix(";"):
                        behind = rules.get((behind, sign))
                    if behind is None:
                        continue
                    now = max(come, writer + 1)
                    if goal == 0:
                        if now == len(begins) and begins != (0,) and behind in reader[1]:
                            return size
                        continue
                    row = (behind, places[:writer] + (goal,) + places[writer + 1:], now,
                           writer if "@" in piece else marker)
                    if row not in found:
                        found.add(row)
                        further.add(row)
        rows = further
    return best


def stands_of(framing):
    """All stands of a framing."""
    places = sorted({goal for start, piece, goal in framing if goal != 0})
    rows = [(0, "plain", 0)]
    for state in range(200):
        rows.append((state, "free", 0))
        rows += [(state, kind, place) for kind in ("plain", "marked", "owned") for place in places]
    return rows


def leads_to(framing, reader, stand):
    """What entries lead to from a stand, as [10] tells it: the stands, and whether one ends a line that passes."""
    rules = {(state, sign): goal for state, sign, goal in reader[0]}
    stands = set()
    passes = False
    state, kind, standing = stand
    for start, piece, goal in framing:
        behind = state
        for sign in piece.replace(";", ""):
            behind = rules.get((behind, sign))
        if behind is None:
            continue
        marked = "@" in piece
        whose = []
        if kind != "free" and start == standing:
            whose.append("the same")
        if not (stand == (0, "plain", 0) and start == 0):
            whose.append("another")
        for one in whose:
            if marked and one == "another" and kind in ("marked", "owned"):
                continue
            alone = one == "the same" and kind in ("plain", "marked")
            if piece[-1] == ";":
                passes = passes or (not alone and behind in reader[1])
            elif alone:
                stands.add((behind, "marked" if marked or kind == "marked" else "plain", goal))
            elif marked or one == "the same":
                stands.add((behind, "owned", goal))
            elif kind in ("marked", "owned"):
                stands.add((behind, "owned", standing))
            else:
                stands.add((behind, "free", 0))
    return stands, passes


def least_paper(framing, reader):
    """The stands that can be come to, or None if a line passes."""
    found = set()
    listed = [(0, "plain", 0)]
    while listed:
        stand = listed.pop()
        if stand not in found:
            found.add(stand)
            further, passes = leads_to(framing, reader, stand)
            if passes:
                return None
            listed += further
    return tuple(sorted(found))


def line_texts(framing, size, begin=0):
    """The texts of at most so many signs that lead from a standing to the end of a line."""
    found = set()
    listed = [("", begin)]
    while listed:
        text, standing = listed.pop()
        for start, piece, goal in framing:
            if start == standing and len(text) + len(piece) <= size:
                if goal == 0:
                    found.add(text + piece)
                else:
                    listed.append((text + piece, goal))
    return found


def mixed_texts(framing, size):
    """The texts, of at most so many signs, of mixed lines with marks of one writer at most."""
    found = set()
    known = set()
    listed = [("", (), (), None)]
    while listed:
        row = listed.pop()
        if row in known:
            continue
        known.add(row)
        text, begins, places, marker = row
        for start, piece, goal in framing:
            for writer in range(len(places) + 1):
                if len(text) + len(piece) > size or ("@" in piece and marker not in (None, writer)):
                    continue
                if writer < len(places) and places[writer] != start:
                    continue
                now = begins if writer < len(places) else begins + (start,)
                further = places[:writer] + (goal,) + places[writer + 1:]
                if goal != 0:
                    listed.append((text + piece, now, further, writer if "@" in piece else marker))
                elif now != (0,):
                    found.add(text + piece)
    return found
