"""Texts of framings: a line for each STEP."""

from tornlines.errors import BadText
from tornlines.framings import MOST_STEPS, is_joined, is_piece, need_framing

STANDING_WORDS = ("0", "1", "2", "3", "4", "5")
MANY_WORDS = 3


def can_stand(words, at):
    """Whether a word can stand in a STEP, those ahead of it being right."""
    if at == 1:
        return is_piece(words[at])
    if words[at] not in STANDING_WORDS:
        return False
    return at == 0 or (words[at] == "0") == words[1].endswith(";")


def wrong_word(words):
    """The number, from 1, of the first of these words that can't stand in a STEP, or that lacks; None of a STEP."""
    for at in range(MANY_WORDS):
        if at >= len(words) or not can_stand(words, at):
            return at + 1
    return None if len(words) == MANY_WORDS else MANY_WORDS + 1


def told_step(words):
    """The STEP that three words tell."""
    return (int(words[0]), words[1], int(words[2]))


def framing_text(framing):
    """The text of a FRAMING."""
    need_framing(framing)
    return "\n".join([f"{start} {piece} {goal}" for start, piece, goal in framing])


def read_steps(text):
    """The STEPS of a text; BadText of the first line that is none."""
    rows = [line.split(" ") for line in text.split("\n")]
    for number, words in enumerate(rows):
        wrong = wrong_word(words)
        if wrong is not None:
            raise BadText(number + 1, wrong)
    return tuple([told_step(words) for words in rows])


def read_framing(text):
    """The FRAMING of a text; BadText of what is none."""
    if not isinstance(text, str):
        raise BadText(0, 0)
    steps = read_steps(text)
    for number in range(1, len(steps)):
        if steps[number] <= steps[number - 1]:
            raise BadText(number + 1, 0)
    if len(steps) > MOST_STEPS:
        raise BadText(MOST_STEPS + 1, 0)
    if not is_joined(steps):
        raise BadText(len(steps) + 1, 0)
    return steps
