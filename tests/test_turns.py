"""turns.py: promise [15]."""

import random
import unittest

from samples import BAD_FRAMINGS, FLAT, FRAMINGS, HALF, ODD, ONE, TWO, WIDE
from told import random_framing
from tornlines.errors import BadFraming, BadWeaving, OutOfPlace
from tornlines.turns import fates, files, need_turned
from tornlines.weavings import file_of, need_weaving

MANNERS = ("line", "piece")
WORDS = ("turn", "copy", "cut")
WRONG_MANNERS = ("", "lines", "Line", "turn", "l", None, True, 0, b"line", ("line",), ["line"], {"line": 1}, MANNERS)
# Pieces of three steps.
TRIPLE = ((0, "@a", 1), (1, "b", 2), (2, "c;", 0))


class OldFile:
    """A file that knows what was put into it, as [15] tells it: pairs of an entry's number and its text."""

    def __init__(self, rows=()):
        self.rows = list(rows)


def slow_files(framing, thing, manner):
    present = OldFile()
    everything = [present]
    lines = {}
    for number, part in enumerate(thing):
        if part == "turn":
            present = OldFile()
            everything.append(present)
        elif part == "copy":
            everything.append(OldFile(present.rows))
        elif part == "cut":
            present.rows.clear()
        else:
            writer, step = part
            start, piece, goal = framing[step]
            home = lines.setdefault(writer, present) if manner == "line" else present
            home.rows.append((number, piece.replace("@", "ABCDEFGH"[writer])))
            if goal == 0:
                lines.pop(writer, None)
    return everything


def slow_fates(framing, thing, manner):
    everything = slow_files(framing, thing, manner)
    told = []
    lines = {}
    for number, part in enumerate(thing):
        if part in WORDS:
            continue
        lines.setdefault(part[0], []).append(number)
        if framing[part[1]][2] != 0:
            continue
        line = lines.pop(part[0])
        whole = 0
        for file in everything:
            row = [entry for entry, text in file.rows]
            for at in range(len(row)):
                begins = at == 0 or file.rows[at - 1][1].endswith(";")
                whole += begins and row[at:at + len(line)] == line
        torn = any(entry in line for file in everything for entry, text in file.rows)
        told.append({0: "torn" if torn else "lost", 1: "kept"}.get(whole, "doubled"))
    return tuple(told)


def random_turned(dice, framing, size, words):
    things = []
    places = [0] * 4
    for _ in range(size):
        if dice.random() < words:
            things.append(dice.choice(WORDS))
            continue
        writer = dice.randrange(4)
        number = dice.choice([number for number, step in enumerate(framing) if step[0] == places[writer]])
        places[writer] = framing[number][2]
        things.append((writer, number))
    return tuple(things)


class NeedTurnedTest(unittest.TestCase):
    def check_wrong(self, framing, thing, number):
        for function, further in ((need_turned, ()), (files, ("line",)), (fates, (None,))):
            with self.assertRaises(BadWeaving, msg=(function, thing)) as caught:
                function(framing, thing, *further)
            self.assertEqual(caught.exception.number, number, (function, thing))

    def test_itself(self):
        for thing in ((), ("turn",), WORDS, ("cut",) * 200, ((0, 0), "turn", (0, 1)), ((7, 0), (0, 0), "copy"),
                      ((0, 0), (0, 1)) * 100, ("copy", (0, 0), "turn", "turn", (0, 1), "cut")):
            self.assertIs(need_turned(HALF, thing), thing)

    def test_no_tuple(self):
        for thing in (None, [], ["turn"], "turn", {}, 0, True, ("turn",) * 201, ((0, 0), (0, 1)) * 100 + ("cut",),
                      (None,) * 201):
            self.check_wrong(HALF, thing, None)
        for thing in ODD:
            self.check_wrong(HALF, thing, None)

    def test_first_that_cannot_stand(self):
        for thing, number in (
            ((None,), 0), ((True,), 0), (("turn", "Turn"), 1), (("turn", "cut", ""), 2), (("turns",), 0),
            (("line",), 0), ((b"turn",), 0), ((("turn",),), 0), ((["turn"],), 0), (((0, 1),), 0),
            (("turn", (0, 1)), 1), (((0, 0), "turn", (0, 0)), 2), (((0, 0), "cut", "copy", (1, 1), None), 3),
            (((8, 0),), 0), (((-1, 0),), 0), (((True, 0),), 0), (((0, False),), 0), (((0, 2),), 0),
            (((0, 0, 0),), 0), (((0,),), 0), ((("0", 0),), 0), (([0, 0],), 0), (((0, 0), "turn", [0, 1]), 2),
            (((0, 0), "turn", (0, 1), "turn", (0, 1)), 4), (("turn", "turn", 5), 2),
        ):
            self.check_wrong(HALF, thing, number)
        for thing in ODD:
            self.check_wrong(HALF, ("turn", (0, 0), "cut", thing), 3)
            self.check_wrong(HALF, ((0, 0), thing, (0, 1), None), 1)

    def test_wrong_framings_and_manners(self):
        for function in (files, fates):
            for manner in WRONG_MANNERS:
                self.assertRaises(OutOfPlace, function, HALF, ((0, 0), "turn"), manner)
                self.assertRaises(BadWeaving, function, HALF, ((0, 1),), manner)
                self.assertRaises(BadFraming, function, (), (), manner)
        for function, further in ((need_turned, (None,)), (files, (None, None)), (fates, (None, None))):
            for thing, number in BAD_FRAMINGS:
                with self.assertRaises(BadFraming) as caught:
                    function(thing, *further)
                self.assertEqual(caught.exception.number, number)
            for thing in ODD:
                self.assertRaises(BadFraming, function, thing, *further)


class TurnsTest(unittest.TestCase):
    def check_turned(self, framing, thing, manner, texts, told):
        self.assertEqual(files(framing, thing, manner), texts, (thing, manner))
        self.assertEqual(fates(framing, thing, manner), told, (thing, manner))

    def test_examples(self):
        thing = ((0, 0), "turn", (0, 1))
        self.check_turned(HALF, thing, "piece", ("Aa", "b;"), ("torn",))
        self.check_turned(HALF, thing, "line", ("Aab;", ""), ("kept",))
        for manner in MANNERS:
            self.check_turned(HALF, ("copy", (0, 0), (0, 1), "cut"), manner, ("", ""), ("lost",))

    def test_without_words(self):
        for framing, weaving in ((ONE, ((0, 0), (1, 0), (0, 1), (1, 1))), (HALF, ((7, 0), (0, 0), (0, 1))),
                                 (FLAT, ((0, 0), (1, 1))), (WIDE, ())):
            for manner in MANNERS:
                self.assertEqual(files(framing, weaving, manner), (file_of(framing, weaving),))
        for manner in MANNERS:
            self.check_turned(ONE, ((0, 0), (1, 0), (0, 1), (1, 1)), manner, ("AaBaAb;Bb;",), ("torn", "torn"))
            self.check_turned(ONE, ((0, 0), (0, 1), (1, 0)), manner, ("AaAb;Ba",), ("kept",))
            self.check_turned(ONE, (), manner, ("",), ())

    def test_at_the_beginning_and_twice(self):
        for manner in MANNERS:
            self.check_turned(HALF, ("turn",), manner, ("", ""), ())
            self.check_turned(HALF, ("turn", "turn", (0, 0), (0, 1)), manner, ("", "", "Aab;"), ("kept",))
            self.check_turned(HALF, ("cut", "cut", "copy", "copy"), manner, ("", "", ""), ())
            self.check_turned(HALF, ((0, 0), (0, 1), "copy", "copy"), manner, ("Aab;",) * 3, ("doubled",))
            self.check_turned(HALF, ((0, 0), (0, 1), "copy", "turn"), manner, ("Aab;", "Aab;", ""), ("doubled",))

    def test_order_of_ends(self):
        thing = ((0, 0), (1, 0), "turn", (1, 1), (0, 1), "cut")
        self.check_turned(HALF, thing, "piece", ("AaBa", ""), ("torn", "torn"))
        self.check_turned(HALF, thing, "line", ("AaBab;b;", ""), ("torn", "torn"))
        thing = ((0, 0), "turn", (1, 0), (1, 1), (0, 1))
        self.check_turned(HALF, thing, "piece", ("Aa", "Bab;b;"), ("kept", "torn"))
        self.check_turned(HALF, thing, "line", ("Aab;", "Bab;"), ("kept", "kept"))

    def test_by_line_a_writer_goes_on_where_it_began(self):
        thing = ((0, 0), "turn", (0, 1), "turn", (0, 2), (0, 0))
        self.check_turned(TRIPLE, thing, "line", ("Aabc;", "", "Aa"), ("kept",))
        self.check_turned(TRIPLE, thing, "piece", ("Aa", "b", "c;Aa"), ("torn",))
        # Also where this file has been cut since, while it is the present one or no more.
        self.check_turned(TRIPLE, ((0, 0), "cut", (0, 1), (0, 2)), "line", ("bc;",), ("torn",))
        self.check_turned(TRIPLE, ((0, 0), "cut", "turn", (0, 1), (0, 2)), "line", ("bc;", ""), ("torn",))
        self.check_turned(TRIPLE, ((0, 0), "turn", "cut", (0, 1), (0, 2)), "line", ("Aabc;", ""), ("kept",))
        # The next line of the same writer goes into the file that is the present one then.
        self.check_turned(HALF, ((0, 0), "turn", (0, 1), (0, 0), (0, 1)), "line", ("Aab;", "Aab;"), ("kept", "kept"))

    def test_copies_stay_as_they_are(self):
        thing = ((0, 0), "copy", (0, 1), "copy", (1, 0), (1, 1))
        for manner in MANNERS:
            self.check_turned(HALF, thing, manner, ("Aab;Bab;", "Aa", "Aab;"), ("doubled", "kept"))
        # Numbers of copies count, too: the next turn makes the file 2.
        thing = ((0, 0), "copy", "turn", (0, 1), "cut")
        self.check_turned(HALF, thing, "piece", ("Aa", "Aa", ""), ("torn",))
        self.check_turned(HALF, thing, "line", ("Aab;", "Aa", ""), ("kept",))
        # The copy of a line outlives the line.
        self.check_turned(HALF, ((0, 0), (0, 1), "copy", "cut"), "line", ("", "Aab;"), ("kept",))
        # A copy of a part alone.
        self.check_turned(HALF, ((0, 0), "copy", (0, 1), "cut"), "line", ("", "Aa"), ("torn",))

    def test_this_very_line(self):
        # Both lines look alike; the first one has been cut.
        for manner in MANNERS:
            thing = ((0, 0), (0, 1), "cut", (0, 0), (0, 1))
            self.check_turned(HALF, thing, manner, ("Aab;",), ("lost", "kept"))
            # In each file there is one of them, and each file looks the same.
            thing = ((0, 0), (0, 1), "turn", (0, 0), (0, 1))
            self.check_turned(HALF, thing, manner, ("Aab;", "Aab;"), ("kept", "kept"))
        # What of two lines of the same writer is left looks like a line, but is none of theirs.
        framing = ((0, "a", 1), (1, "b", 2), (2, "c;", 0))
        thing = ((0, 0), "turn", (0, 1), (0, 2), (0, 0), "turn", (0, 1), (0, 2))
        self.check_turned(framing, thing, "piece", ("a", "bc;a", "bc;"), ("torn", "torn"))

    def test_a_line_behind_a_torn_one(self):
        # The line of the writer 1 is in one piece, but the read line begins ahead of it.
        for manner in MANNERS:
            thing = ((0, 0), (1, 0), (1, 1))
            self.check_turned(HALF, thing, manner, ("AaBab;",), ("torn",))
        # Behind a cut it begins there.
        thing = ((0, 0), "cut", (1, 0), (1, 1), (0, 1))
        for manner in MANNERS:
            self.check_turned(HALF, thing, manner, ("Bab;b;",), ("kept", "torn"))
        self.check_turned(HALF, ((0, 0), "copy", "cut", (0, 1)), "piece", ("b;", "Aa"), ("torn",))

    def test_lines_of_one_piece(self):
        for manner in MANNERS:
            thing = ((0, 1), "copy", (1, 0), "turn", (0, 1), "cut", (2, 0))
            self.check_turned(FLAT, thing, manner, ("a;;", "a;", ";"), ("doubled", "kept", "lost", "kept"))
            thing = ((0, 0), (1, 0), "turn")
            self.check_turned(FLAT, thing, manner, (";;", ""), ("kept", "kept"))

    def test_many_files(self):
        thing = ((0, 0), (0, 1)) + ("copy",) * 198
        self.check_turned(HALF, thing, "line", ("Aab;",) * 199, ("doubled",))
        thing = ((0, 0),) + ("turn",) * 198 + ((0, 1),)
        self.check_turned(HALF, thing, "line", ("Aab;",) + ("",) * 198, ("kept",))
        self.check_turned(HALF, thing, "piece", ("Aa",) + ("",) * 197 + ("b;",), ("torn",))

    def test_against_slow_search(self):
        dice = random.Random(9)
        words = {}
        for _ in range(400):
            framing = dice.choice(FRAMINGS + (TRIPLE, random_framing(dice)))
            thing = random_turned(dice, framing, dice.randint(0, 40), dice.choice((0.1, 0.3, 0.6)))
            entries = tuple(part for part in thing if part not in WORDS)
            self.assertIs(need_weaving(framing, entries), entries)
            for manner in MANNERS:
                texts = tuple("".join(text for entry, text in file.rows)
                              for file in slow_files(framing, thing, manner))
                told = slow_fates(framing, thing, manner)
                self.check_turned(framing, thing, manner, texts, told)
                for word in told:
                    words[manner, word] = True
        self.assertEqual(len(words), 8)


if __name__ == "__main__":
    unittest.main()
