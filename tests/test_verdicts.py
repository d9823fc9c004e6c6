"""verdicts.py: promise [13]."""

import random
import time
import unittest

from samples import BAD_FRAMINGS, FLAT, FRAMINGS, HALF, ODD, ONE, TWO, WIDE
from told import random_framing
from tornlines.errors import BadFraming, OutOfPlace
from tornlines.verdicts import explained, possible, verdicts
from tornlines.weavings import file_of, is_whole_line, need_weaving, read_lines

NUMBERS = (1, 2, 3)
WRONG_NUMBERS = (0, 4, -1, True, False, None, "2", 2.0, (), (2,), [2], b"2", 10 ** 999, -10 ** 999, {})
WRONG_TEXTS = (None, True, 1, b"Aab;", ["A"], ("A", "a"), (), [], "@", "@ab;", "Aab; ", " ", "Aab;\n", "\n", "I", "Ia;",
               "Z", "-", "_", ".", ":", "<", "`", "{", "/", "\u00e9", "\u0661", "a" * 61, ";" * 61)
TEXT = "BaAab;Aab;b;"
# Its pieces can be read in several ways.
LOOSE = ((0, "a", 1), (0, "ab", 1), (0, "b;", 0), (1, "a", 1), (1, "b;", 0), (1, "bb;", 0))
# Very many states at each place: three writers on six standings.
DENSE = ((0, "a", 1), (0, "aa", 2), (0, "aaa", 3), (1, "a", 2), (1, "a;", 0), (1, "aa", 3), (2, "a", 3), (2, "aa", 4),
         (2, "aaa", 5), (3, "a", 1), (3, "aa", 4), (3, "aa", 5), (4, "a", 5), (4, "aa", 1), (5, "a", 1), (5, "aa", 2))


def weavings_of(framing, text, writers):
    """All weavings of so many writers of which a text is the file."""
    rows = [("", ())]
    found = []
    while rows:
        put, weaving = rows.pop()
        if put == text:
            found.append(weaving)
            continue
        for writer in range(writers):
            place = ([0] + [framing[step][2] for other, step in weaving if other == writer])[-1]
            for number, (start, piece, goal) in enumerate(framing):
                more = put + piece.replace("@", "ABC"[writer])
                if start == place and text.startswith(more):
                    rows.append((more, weaving + ((writer, number),)))
    return found


def slow_verdicts(framing, weavings):
    """The verdicts of some weavings, one at least, of the same file."""
    rows = [[is_whole_line(framing, line) for line in read_lines(framing, weaving)] for weaving in weavings]
    return tuple("whole" if all(column) else "open" if any(column) else "mixed" for column in zip(*rows))


def random_text(dice, framing, writers, most):
    """What some weaving of so many writers puts."""
    places = [0] * writers
    text = ""
    for _ in range(dice.randint(0, most)):
        writer = dice.randrange(writers)
        start, piece, goal = dice.choice([step for step in framing if step[0] == places[writer]])
        places[writer] = goal
        text += piece.replace("@", "ABC"[writer])
    return text


class VerdictsTest(unittest.TestCase):
    def check_text(self, framing, text, writers, told):
        """The verdicts told, None of a text that is not possible."""
        self.assertIs(possible(framing, text, writers), told is not None, (framing, text, writers))
        weaving = explained(framing, text, writers)
        if told is None:
            self.assertIsNone(weaving)
            self.assertRaises(OutOfPlace, verdicts, framing, text, writers)
            return
        self.assertIs(need_weaving(framing, weaving), weaving)
        self.assertEqual(file_of(framing, weaving), text)
        self.assertTrue(all(writer < writers for writer, step in weaving))
        self.assertEqual(explained(framing, text, writers), weaving)
        self.assertEqual(verdicts(framing, text, writers), told, (framing, text, writers))

    def test_example(self):
        self.check_text(HALF, TEXT, 2, ("mixed", "open", "mixed"))
        self.check_text(HALF, TEXT, 3, ("mixed", "open", "mixed"))
        self.check_text(HALF, TEXT, 1, None)

    def test_empty(self):
        for framing in FRAMINGS:
            for writers in NUMBERS:
                self.check_text(framing, "", writers, ())
                self.assertEqual(explained(framing, "", writers), ())

    def test_whole(self):
        for writers in NUMBERS:
            self.check_text(ONE, "AaAb;AaAb;", writers, ("whole", "whole"))
            self.check_text(HALF, "Aab;", writers, ("whole",))
        self.check_text(ONE, "AaBaAb;Bb;", 2, ("mixed", "mixed"))
        # Only if another writer has begun ahead of it can a line be mixed.
        self.check_text(HALF, "Aab;Aab;", 2, ("whole", "whole"))
        self.check_text(HALF, "Aab;AaBab;", 2, ("whole", "mixed"))
        self.check_text(HALF, "AaBab;Aab;", 2, ("mixed", "open"))

    def test_cut_texts(self):
        # Within a line, and within a piece.
        self.check_text(ONE, "Aa", 2, ())
        self.check_text(ONE, "AaAb;Ba", 2, ("whole",))
        for text in ("A", "AaA", "AaAb", "AaAb;B", "a", "aAb;", "b;", ";", "AaAb;;", "AaAbAb;"):
            self.check_text(ONE, text, 2, None)
        long_pieces = ((0, "@abc", 1), (1, "defg;", 0))
        for size in range(15):
            text = "AabcBabcdefg;defg;"[:size]
            self.check_text(long_pieces, text, 2, {0: (), 4: (), 8: (), 13: ("mixed",)}.get(size))

    def test_marks_of_other_writers(self):
        for mark, least in (("A", 1), ("B", 2), ("C", 3), ("D", None), ("H", None)):
            for writers in NUMBERS:
                told = ("whole",) if least is not None and writers >= least else None
                self.check_text(ONE, mark + "a" + mark + "b;", writers, told)

    def test_more_writers_open_what_fewer_close(self):
        text = "abx;y;ax;"
        self.check_text(TWO, text, 1, None)
        self.check_text(TWO, text, 2, ("mixed", "mixed", "whole"))
        self.check_text(TWO, "ax;by;", 1, ("whole", "whole"))
        self.check_text(TWO, "ax;by;", 3, ("whole", "whole"))
        self.check_text(TWO, "aax;bx;", 2, ("mixed", "open"))
        self.check_text(TWO, "aax;bx;", 3, ("mixed", "open"))
        self.check_text(TWO, "aabx;y;x;", 2, None)
        self.check_text(TWO, "aabx;y;x;", 3, ("mixed",) * 3)

    def test_whole_to_the_end_alone(self):
        # What stands behind a line may tell of it: only if the first one is mixed can "b;" come to be.
        framing = ((0, "a", 1), (0, "c;", 0), (1, "b;", 0), (1, "c;", 0))
        self.check_text(framing, "ac;", 2, ("open",))
        self.check_text(framing, "ac;c;", 2, ("open", "open"))
        self.check_text(framing, "ac;b;", 2, ("mixed", "mixed"))

    def test_one_standing(self):
        for writers in NUMBERS:
            self.check_text(FLAT, ";a;a;;", writers, ("whole",) * 4)
            self.check_text(FLAT, "a", writers, None)

    def test_begun_elsewhere(self):
        # A single writer has put the line, but its first step is not from 0.
        framing = ((0, "a;", 0), (0, "b", 1), (1, "c", 1), (1, "a;", 0))
        self.assertRaises(BadFraming, verdicts, framing, "a;", 2)
        framing = tuple(sorted(framing))
        self.check_text(framing, "bc", 2, ())
        self.check_text(framing, "ba;a;", 2, ("open", "open"))
        self.check_text(framing, "ba;ca;", 2, ("mixed", "mixed"))
        self.check_text(framing, "ba;a;", 1, ("whole", "whole"))

    def test_pieces_read_in_several_ways(self):
        for text in ("abb;", "aabb;b;", "abab;bb;", "ab;b;abb;", "aaab;bb;b;"):
            for writers in NUMBERS:
                found = weavings_of(LOOSE, text, writers)
                self.check_text(LOOSE, text, writers, slow_verdicts(LOOSE, found) if found else None)

    def test_against_slow_search(self):
        dice = random.Random(7)
        words = {}
        for _ in range(250):
            framing = random_framing(dice, dice.choice(("ab@", "a@", "a", "ab")), dice.randint(2, 7),
                                     dice.randint(1, 4), 2)
            text = random_text(dice, framing, dice.randint(1, 3), 7)
            if dice.random() < 0.2:
                text = text[:-1]
            if dice.random() < 0.2:
                text = text[1:]
            for writers in NUMBERS:
                found = weavings_of(framing, text, writers)
                told = slow_verdicts(framing, found) if found else None
                self.check_text(framing, text, writers, told)
                for word in told or (None,):
                    words[word] = True
        self.assertEqual(set(words), {"whole", "mixed", "open", None})

    def test_long_texts(self):
        for text in ("a" * 60, "a" * 59 + ";", ("a" * 9 + ";") * 6, "aa;" * 20):
            begun = time.process_time()
            self.assertEqual(len(verdicts(DENSE, text, 3)), text.count(";"))
            self.assertEqual(file_of(DENSE, explained(DENSE, text, 3)), text)
            self.assertIs(possible(DENSE, text, 3), True)
            self.assertLess(time.process_time() - begun, 15)
        self.check_text(FLAT, ";" * 60, 3, ("whole",) * 60)
        self.check_text(HALF, "Aab;" * 15, 3, ("whole",) * 15)
        self.check_text(WIDE, "a" * 60, 3, ())

    def test_wrong_arguments(self):
        for function in (possible, explained, verdicts):
            for thing, number in BAD_FRAMINGS:
                with self.assertRaises(BadFraming) as caught:
                    function(thing, None, 0)
                self.assertEqual(caught.exception.number, number)
            for thing in ODD:
                self.assertRaises(BadFraming, function, thing, "", 1)
            for writers in WRONG_NUMBERS:
                self.assertRaises(OutOfPlace, function, HALF, "", writers)
            for text in WRONG_TEXTS:
                self.assertRaises(OutOfPlace, function, HALF, text, 2)
        for text in ("b;", "a", "Aabb;", "Ca", "Ha", "AAab;"):
            self.assertRaises(OutOfPlace, verdicts, HALF, text, 2)


if __name__ == "__main__":
    unittest.main()
