"""texts.py: promise [16]."""

import random
import unittest

from samples import BAD_FRAMINGS, FLAT, FRAMINGS, HALF, ODD, ONE, TWO, WIDE
from told import random_framing
from tornlines.errors import BadFraming, BadText
from tornlines.texts import framing_text, read_framing


class FramingTextTest(unittest.TestCase):
    def test_texts(self):
        self.assertEqual(framing_text(ONE), "0 @a 1\n1 @b; 0")
        self.assertEqual(framing_text(TWO), "0 a 1\n0 b 1\n1 x; 0\n1 y; 0")
        self.assertEqual(framing_text(FLAT), "0 ; 0\n0 a; 0")
        self.assertEqual(framing_text(((0, ";", 0),)), "0 ; 0")

    def test_back_and_forth(self):
        dice = random.Random(10)
        for framing in FRAMINGS + tuple(random_framing(dice, steps=16, standings=6, most=7) for _ in range(100)):
            self.assertEqual(read_framing(framing_text(framing)), framing)
            self.assertEqual(len(framing_text(framing).split("\n")), len(framing))

    def test_wrong_framings(self):
        for thing, number in BAD_FRAMINGS:
            with self.assertRaises(BadFraming) as caught:
                framing_text(thing)
            self.assertEqual(caught.exception.number, number)
        for thing in ODD:
            self.assertRaises(BadFraming, framing_text, thing)


class ReadFramingTest(unittest.TestCase):
    def check_wrong(self, text, line, word):
        with self.assertRaises(BadText, msg=text) as caught:
            read_framing(text)
        self.assertEqual((caught.exception.line, caught.exception.word), (line, word), text)

    def test_no_string(self):
        for thing in ODD + (("0 a; 0",), ["0 a; 0"], b"0 a; 0", HALF, 0):
            if not isinstance(thing, str):
                self.check_wrong(thing, 0, 0)

    def test_words(self):
        for line, word in (
            # FROM.
            ("", 1), (" ", 1), (" 0 a; 0", 1), ("a a; 0", 1), ("6 a; 0", 1), ("9 a; 0", 1), ("-1 a; 0", 1),
            ("+0 a; 0", 1), ("-0 a; 0", 1), ("00 a; 0", 1), ("01 a; 0", 1), ("10 a; 0", 1), ("0a; 0", 1), ("x", 1),
            ("x y z v", 1), ("0\ta; 0", 1), ("0_ a; 0", 1), ("True a; 0", 1), ("0.0 a; 0", 1), ("\u0660 a; 0", 1),
            # PIECE.
            ("0", 2), ("0 ", 2), ("0  a; 0", 2), ("0 A; 0", 2), ("0 a;; 0", 2), ("0 ;a 1", 2), ("0 aaaaaaaaa 1", 2),
            ("0 aaaaaaaa; 0", 2), ("0 A 7 8", 2), ("0 a-b 1", 2), ("0  ", 2), ("5 _ 0", 2), ("0 \u00e9 1", 2),
            # TO, also held against its PIECE.
            ("0 a", 3), ("0 a ", 3), ("0 a;  0", 3), ("0 a; 00", 3), ("0 a; -0", 3), ("0 a; +0", 3), ("0 a; x", 3),
            ("0 a 6", 3), ("0 a 01", 3), ("0 a 10", 3), ("0 a 0", 3), ("0 a; 1", 3), ("0 a; 1 2", 3), ("0 a 0 0", 3),
            ("0 @;", 3), ("0 a 1\t", 3), ("0 a; 0\r", 3),
            # More than three words.
            ("0 a; 0 ", 4), ("0 a; 0 0", 4), ("0 a 1 x y z", 4), ("0 a; 0  ", 4),
        ):
            self.check_wrong(line, 1, word)
            self.check_wrong(line + "\n", 1, word)
            self.check_wrong("0 0 1\n" + line, 2, word)
            self.check_wrong("0 0 1\n0 0 1\n" + line + "\n" + line + "\n", 3, word)

    def test_newlines(self):
        self.check_wrong("\n", 1, 1)
        self.check_wrong("0 a; 0\n", 2, 1)
        self.check_wrong("\n0 a; 0", 1, 1)
        self.check_wrong("0 a; 0\n\n0 b; 0", 2, 1)
        self.check_wrong(framing_text(WIDE) + "\n", 17, 1)

    def test_wrong_words_ahead_of_the_order(self):
        self.check_wrong("0 b; 0\n0 a; 0\n0 c; 1", 3, 3)
        self.check_wrong("0 b; 0\n0 b; 0\n0", 3, 2)

    def test_order(self):
        self.check_wrong("0 a; 0\n0 a; 0", 2, 0)
        self.check_wrong("0 b; 0\n0 a; 0", 2, 0)
        self.check_wrong("0 a; 0\n0 b; 0\n0 c; 0\n0 b; 0\n0 a; 0", 4, 0)
        self.check_wrong("1 a; 0\n0 a 1", 2, 0)
        self.check_wrong("0 a 2\n0 a 1", 2, 0)
        # It goes ahead of STEPS that are no FRAMING together.
        self.check_wrong("3 a 4\n2 a 3", 2, 0)
        # Of pieces one is greater if it goes on; ";" comes ahead of "@", and that ahead of "a".
        self.assertEqual(read_framing("0 0; 0\n0 0a; 0\n0 ; 0\n0 @; 0\n0 a; 0\n0 a@; 0"),
                         ((0, "0;", 0), (0, "0a;", 0), (0, ";", 0), (0, "@;", 0), (0, "a;", 0), (0, "a@;", 0)))

    def test_many_lines(self):
        lines = ["0 " + sign + "; 0" for sign in "abcdefghijklmnopqrstuvwxyz"]
        self.assertEqual(len(read_framing("\n".join(lines[:16]))), 16)
        for many in (17, 18, 26):
            self.check_wrong("\n".join(lines[:many]), 17, 0)
        # What is told ahead of it.
        self.check_wrong("\n".join(lines[:16] + ["0 a;"]), 17, 3)
        self.check_wrong("\n".join(lines[:17] + ["0"]), 18, 2)
        self.check_wrong("\n".join(lines[:16] + ["0 a; 0"]), 17, 0)
        self.check_wrong("\n".join(lines[:3] + lines), 4, 0)
        # What is told behind it.
        self.check_wrong("\n".join(lines[:16] + ["1 a; 0"]), 17, 0)

    def test_no_framing_together(self):
        self.check_wrong("0 a 1", 2, 0)
        self.check_wrong("1 a; 0", 2, 0)
        self.check_wrong("0 a; 0\n1 a; 0", 3, 0)
        self.check_wrong("0 a 1\n0 b; 0", 3, 0)
        self.check_wrong("0 a 1\n1 a 1\n1 a 2", 4, 0)
        self.check_wrong("\n".join(["0 a; 0"] + ["5 " + sign + "; 0" for sign in "abcdefghijklmno"]), 17, 0)
        self.assertEqual(read_framing("0 a 1\n1 a 1\n1 a; 0"), ((0, "a", 1), (1, "a", 1), (1, "a;", 0)))


if __name__ == "__main__":
    unittest.main()
