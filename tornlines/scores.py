"""Counted weavings: in how many ways given lines of given writers can come into one file."""

from tornlines.errors import OutOfPlace
from tornlines.framings import is_line, is_number, need_framing
from tornlines.weavings import MARKS, is_whole_line, need_weaving, read_lines

MOST_SCORED = 40


def is_score(framing, thing):
    """Whether this is a SCORE of a FRAMING."""
    if not isinstance(thing, tuple) or not 1 <= len(thing) <= len(MARKS):
        return False
    steps = 0
    for lines in thing:
        if not isinstance(lines, tuple):
            return False
        for line in lines:
            if not is_line(framing, line):
                return False
            steps += len(line)
            if steps > MOST_SCORED:
                return False
    return True


def need_score(framing, thing):
    """The thing itself, a SCORE of a FRAMING; OutOfPlace of what is none."""
    need_framing(framing)
    if not is_score(framing, thing):
        raise OutOfPlace("this is no SCORE of the FRAMING")
    return thing


def orders(sizes):
    """How many orders there are of things of some kinds, so many of each one that are alike."""
    many = 1
    place = 0
    for size in sizes:
        for number in range(1, size + 1):
            place += 1
            many = many * place // number
    return many


def steps_of(score):
    """For each writer the numbers of the STEPS that it puts, in order."""
    return [[step for line in lines for step in line] for lines in score]


def count(framing, score):
    """How many WEAVINGs a SCORE has."""
    need_score(framing, score)
    return orders([len(steps) for steps in steps_of(score)])


def count_clean(framing, score):
    """How many WEAVINGs of a SCORE are CLEAN."""
    need_score(framing, score)
    # Their READ LINES are just the LINES of the SCORE: so they are the orders of these.
    return orders([len(lines) for lines in score])


def less_one(sizes, writer):
    """These sizes when a writer has put one STEP more."""
    return sizes[:writer] + [sizes[writer] - 1] + sizes[writer + 1:]


def orders_with(sizes, writer):
    """How many orders of what is left begin with a STEP of this writer."""
    if sizes[writer] == 0:
        return 0
    return orders(less_one(sizes, writer))


def weaving_at(framing, score, number):
    """The WEAVING of a SCORE that has a number; OutOfPlace of what is no such number."""
    need_score(framing, score)
    steps = steps_of(score)
    sizes = [len(row) for row in steps]
    if not is_number(number, orders(sizes)):
        raise OutOfPlace("this is no number of a WEAVING of the SCORE")
    entries = []
    rest = number
    while sum(sizes) > 0:
        writer = 0
        while rest >= orders_with(sizes, writer):
            rest -= orders_with(sizes, writer)
            writer += 1
        entries.append((writer, steps[writer][len(steps[writer]) - sizes[writer]]))
        sizes = less_one(sizes, writer)
    return tuple(entries)


def is_of_score(score, weaving):
    """Whether each writer puts in a WEAVING just what the SCORE tells."""
    if not all([writer < len(score) for writer, step in weaving]):
        return False
    for writer, steps in enumerate(steps_of(score)):
        if [step for other, step in weaving if other == writer] != steps:
            return False
    return True


def weaving_number(framing, score, weaving):
    """The number of a WEAVING of a SCORE; OutOfPlace of what is none."""
    need_score(framing, score)
    need_weaving(framing, weaving)
    if not is_of_score(score, weaving):
        raise OutOfPlace("this is no WEAVING of the SCORE")
    sizes = [len(steps) for steps in steps_of(score)]
    number = 0
    for writer, step in weaving:
        number += sum([orders_with(sizes, lesser) for lesser in range(writer)])
        sizes = less_one(sizes, writer)
    return number


def is_clean(framing, weaving):
    """Whether all READ LINES of a WEAVING are WHOLE."""
    lines = read_lines(framing, weaving)
    return all([is_whole_line(framing, line) for line in lines])
