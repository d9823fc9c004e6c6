"""What a file tells: how it can have been written, and which of its lines are surely whole."""

from tornlines.errors import OutOfPlace
from tornlines.framings import is_number, need_framing
from tornlines.weavings import MARKS

FILE_SIGNS = "abcdefghijklmnopqrstuvwxyz0123456789;ABCDEFGH"
MOST_FILE_SIGNS = 60
MOST_WRITERS = 3
WHOLE = "whole"
MIXED = "mixed"
OPEN = "open"


def need_file_text(thing):
    """The thing itself, a text that a file can have; OutOfPlace of what is none."""
    if not isinstance(thing, str) or len(thing) > MOST_FILE_SIGNS:
        raise OutOfPlace("this is no text of at most 60 signs")
    if not all([sign in FILE_SIGNS for sign in thing]):
        raise OutOfPlace("this sign can't stand in a file")
    return thing


def need_few_writers(thing):
    """The thing itself, a number of writers from 1 to 3; OutOfPlace of what is none."""
    if not is_number(thing, MOST_WRITERS + 1) or thing == 0:
        raise OutOfPlace("this is no number of writers from 1 to 3")
    return thing


def fits_at(framing, text, at, writers):
    """The ENTRIES whose PIECE is what the text has here."""
    fits = []
    for writer in range(writers):
        for number, (start, piece, goal) in enumerate(framing):
            put = piece.replace("@", MARKS[writer])
            if text[at:at + len(put)] == put:
                fits.append((writer, number))
    return fits


def maker_behind(maker, writer, start):
    """Who has put a READ LINE behind a STEP of this writer: one writer from 0 on, or MIXED; None if nothing is put."""
    if maker is None and start == 0:
        return writer
    return maker if maker == writer else MIXED


def state_behind(state, writer, step):
    """The STANDINGS of the writers and who has put the READ LINE, behind a STEP of this writer."""
    places, maker = state
    start, piece, goal = step
    further = places[:writer] + (goal,) + places[writer + 1:]
    return (further, None if goal == 0 else maker_behind(maker, writer, start))


def traces(framing, text, writers):
    """For each place in a text the states there, each with the (place, state, ENTRY) triples by which it is come to.

    A state is a pair: the STANDINGS of the writers, and who has put what the present READ LINE has so far.
    """
    layers = [{} for at in range(len(text) + 1)]
    layers[0][(0,) * writers, None] = []
    for at in range(len(text)):
        fits = fits_at(framing, text, at, writers)
        for state in list(layers[at]):
            for writer, number in fits:
                if framing[number][0] == state[0][writer]:
                    layer = layers[at + len(framing[number][1])]
                    behind = state_behind(state, writer, framing[number])
                    layer.setdefault(behind, []).append((at, state, (writer, number)))
    return layers


def checked_traces(framing, text, writers):
    """The traces of a text; BadFraming, OutOfPlace of what can't be passed."""
    need_framing(framing)
    need_file_text(text)
    need_few_writers(writers)
    return traces(framing, text, writers)


def possible(framing, text, writers):
    """Whether a text is the FILE of a WEAVING of so many writers."""
    return len(checked_traces(framing, text, writers)[-1]) > 0


def explained(framing, text, writers):
    """A WEAVING of so many writers of which a text is the FILE, or None."""
    layers = checked_traces(framing, text, writers)
    if len(layers[-1]) == 0:
        return None
    entries = []
    at = len(text)
    state = list(layers[at])[0]
    while at > 0:
        at, state, entry = layers[at][state][0]
        entries.append(entry)
    return tuple(entries[::-1])


def words_read(framing, layers):
    """For each place behind a READ LINE the words for it in the WEAVINGs of the whole text: WHOLE, MIXED or both."""
    going = [{} for layer in layers]
    going[-1] = {state: True for state in layers[-1]}
    words = {}
    for at in range(len(layers) - 1, 0, -1):
        for state in list(going[at]):
            for before, ahead, (writer, number) in layers[at][state]:
                going[before][ahead] = True
                start, piece, goal = framing[number]
                if goal == 0:
                    mixed = maker_behind(ahead[1], writer, start) == MIXED
                    words.setdefault(at, {})[MIXED if mixed else WHOLE] = True
    return words


def verdicts(framing, text, writers):
    """For each READ LINE of a text whether it is WHOLE in all WEAVINGs of so many writers, in none, or in some."""
    layers = checked_traces(framing, text, writers)
    if len(layers[-1]) == 0:
        raise OutOfPlace("no such WEAVING has this FILE")
    words = words_read(framing, layers)
    return tuple([list(words[at])[0] if len(words[at]) == 1 else OPEN for at in sorted(words)])
