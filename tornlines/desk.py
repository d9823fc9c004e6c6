"""A desk: a file that is asked and told by lines of text."""

from tornlines.errors import BadFraming, BadPaper, BadReader, BadText, BadWeaving, Held, Nothing, OutOfPlace, TooGreat
from tornlines.live import Shared
from tornlines.marks import fewest_marks
from tornlines.passings import passing
from tornlines.readers import strict
from tornlines.texts import told_step, wrong_word
from tornlines.weavings import MARKS, is_whole_line, read_lines, text_put

DONE = "done"
NO = "no"
NONE = "none"
MOST_DIGITS = 3


def told_number(word):
    """The number that a word tells; OutOfPlace of what tells none."""
    if not word.isascii() or not word.isdigit() or (len(word) > 1 and word.startswith("0")):
        raise OutOfPlace("this is no number")
    # Nothing that is asked for has such a number; and Python refuses to read very long ones.
    if len(word) > MOST_DIGITS:
        raise OutOfPlace("this number is too great")
    return int(word)


def say_step(desk, words):
    """Collects a STEP."""
    if wrong_word(words) is not None or told_step(words) in desk.steps:
        return NO
    desk.steps.append(told_step(words))
    return DONE


def say_begin(desk, words):
    """Makes a Shared of the STEPS that are collected."""
    desk.present = Shared(tuple(sorted(desk.steps)), told_number(words[0]))
    return DONE


def say_write(desk, words):
    """Puts an ENTRY."""
    return desk.present.write(told_number(words[0]), told_number(words[1]))


def say_back(desk, words):
    """Takes an ENTRY back."""
    desk.present.back()
    return DONE


def say_text(desk, words):
    """The FILE."""
    text = desk.present.text
    return NONE if text == "" else text


def say_read(desk, words):
    """Which READ LINES are WHOLE."""
    framing = desk.present.framing
    lines = read_lines(framing, desk.present.weaving)
    told = ["whole" if is_whole_line(framing, line) else "mixed" for line in lines]
    return " ".join(told) if told else NONE


def say_safe(desk, words):
    """Whether the FRAMING is SAFE; the text of a shortest line that passes if it is not."""
    framing = desk.present.framing
    writers = None if words[0] == "any" else told_number(words[0])
    shown = passing(framing, strict(framing), writers)
    if shown is None:
        return "yes"
    begins, entries = shown
    if len(begins) > len(MARKS):
        return NO
    return "no pass " + text_put(framing, entries)


def say_marks(desk, words):
    """The numbers of the STEPS that must be MARKED."""
    steps = fewest_marks(desk.present.framing)
    if steps is None:
        return "never"
    return " ".join([str(step) for step in steps]) if steps else NONE


# How many words follow each first word, and what is done then.
SIZES = {"step": 3, "begin": 1, "write": 2, "back": 0, "text": 0, "read": 0, "safe": 1, "marks": 0}
DEEDS = {
    "step": say_step,
    "begin": say_begin,
    "write": say_write,
    "back": say_back,
    "text": say_text,
    "read": say_read,
    "safe": say_safe,
    "marks": say_marks,
}
# These need no Shared.
FREE_WORDS = ("step", "begin")


class Desk:
    """Collects STEPS, makes a Shared of them, and answers lines about it."""

    def __init__(self):
        self.steps = []
        self.present = None

    @property
    def shared(self):
        """The Shared, or None."""
        return self.present

    def say(self, line):
        """The answer to a line; "no", and nothing changes, if it is none or can't be done."""
        if not isinstance(line, str):
            raise OutOfPlace("this is no line of text")
        words = line.split(" ")
        if words[0] not in DEEDS or len(words) - 1 != SIZES[words[0]]:
            return NO
        if self.present is None and words[0] not in FREE_WORDS:
            return NO
        deed = DEEDS[words[0]]
        try:
            return deed(self, words[1:])
        except (BadFraming, BadPaper, BadReader, BadText, BadWeaving, Held, Nothing, OutOfPlace, TooGreat):
            return NO
