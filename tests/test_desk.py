"""desk.py: the class Desk."""

import inspect
import unittest

from samples import HALF, ODD, ONE, TWO, WIDE
from tornlines import desk as module
from tornlines.desk import Desk
from tornlines.errors import Held, OutOfPlace
from tornlines.live import Shared
from tornlines.passings import passing
from tornlines.readers import strict
from tornlines.texts import framing_text

# A line passes only if each "a" of it is put by a writer of its own, and its marks by still another one.
EIGHT = ((0, "@", 1), (0, "@aaaaaaa", 4), (0, "@p", 2), (1, "@;", 0), (2, "a", 3), (3, "@z;", 0), (4, "@;", 0))
NINE = EIGHT[:6] + ((4, "a@;", 0),)
# Its strict reader has more than 200 states.
WHEELS = ((0, "a@", 1), (0, "a@", 3), (1, "@;", 0), (1, "@@@@@@@@", 2), (2, "@@@@@@@", 1), (3, "@;", 0),
          (3, "@@@@@@@@", 4), (4, "@@@@@@@@", 3))


def desk_of(framing, writers=2):
    desk = Desk()
    for line in framing_text(framing).split("\n"):
        desk.say("step " + line)
    desk.say(f"begin {writers}")
    return desk


class DeskTest(unittest.TestCase):
    def check_lines(self, desk, *pairs):
        for line, told in pairs:
            answer = desk.say(line)
            self.assertEqual(answer, told, line)
            self.assertIs(type(answer), str)

    def check_refused(self, desk, *lines):
        """Each line is answered with "no" and changes nothing."""
        before = desk.shared
        twin = None if before is None else before.copy()
        for line in lines:
            self.assertEqual(desk.say(line), "no", line)
            self.assertIs(desk.shared, before)
            self.assertEqual(desk.shared, twin)

    def test_interface(self):
        self.assertEqual(list(inspect.signature(Desk).parameters), [])
        self.assertEqual(list(inspect.signature(Desk.say).parameters)[1:], ["line"])
        self.assertEqual(Desk.__module__, module.__name__)
        for name in ("__init__", "say", "shared"):
            self.assertIn(name, vars(Desk))
        self.assertIsInstance(vars(Desk)["shared"], property)
        self.assertEqual(Desk().say(line="text"), "no")

    def test_a_day_at_the_desk(self):
        self.check_lines(
            Desk(),
            ("step 1 b; 0", "done"), ("step 0 @a 1", "done"), ("begin 2", "done"), ("text", "none"), ("read", "none"),
            ("write 1 0", "Ba"), ("write 0 0", "Aa"), ("read", "none"), ("write 0 1", "b;"), ("text", "BaAab;"),
            ("read", "mixed"), ("write 0 0", "Aa"), ("write 0 1", "b;"), ("read", "mixed whole"),
            ("write 1 1", "b;"), ("text", "BaAab;Aab;b;"), ("read", "mixed whole mixed"), ("back", "done"),
            ("back", "done"), ("read", "mixed"), ("text", "BaAab;Aa"), ("safe 1", "yes"), ("safe 2", "no pass Aab;"),
            ("safe any", "no pass Aab;"), ("marks", "1"),
        )

    def test_not_a_line_of_text(self):
        desk = desk_of(HALF)
        for thing in ODD + (b"text", ["text"], ("text",), 0):
            if not isinstance(thing, str):
                self.assertRaises(OutOfPlace, desk.say, thing)

    def test_what_is_no_line(self):
        lines = ("", " ", "x", "Text", "TEXT", "text ", " text", "text text", "text\n", "\ntext", "texts", "read 0",
                 "read ", "back 1", "back ", " back", "marks any", "marks ", "write", "write 0", "write 0 0 0",
                 "write  0 0", "write 0  0", " write 0 0", "write 0 0 ", "write\t0 0", "write 0 0\n", "write 00 0",
                 "write 0 00", "write +0 0", "write -0 0", "write 0 -1", "write a 0", "write 0 x", "write 0.0 0",
                 "write True 0", "write 0 ", "write  ", "write 0 0_0", "write \u0660 0", "write \u00b2 0", "safe",
                 "safe ", "safe 02", "safe -1", "safe +2", "safe 2 ", "safe  2", "safe Any", "safe any ", "safe None",
                 "safe 2 2", "safe x", "begin", "begin ", "begin 02", "begin two", "begin 2 2", "begin  2", "begin 2 ",
                 "begin any", "begin -2", "begin +2", "step", "step ", "step 0 a", "step 0 a; 0 0", "step  0 a; 0",
                 "step 0  a; 0", "step 0 a; 0 ", " step 0 a; 0", "step 00 a; 0", "step 0 a; 00", "step +0 a; 0",
                 "step 6 a 1", "step 0 a 6", "step 0 a 0", "step 0 a; 1", "step 0 A; 0", "step 0 aaaaaaaa; 0",
                 "step 0 ;a 1", "step -1 a 1", "step x a 1", "none", "done", "no", "quit", "hold 0", "copy")
        self.check_refused(Desk(), *lines)
        for framing in (HALF, TWO):
            desk = desk_of(framing)
            desk.say("write 0 0")
            self.check_refused(desk, *lines)

    def test_without_a_shared(self):
        desk = Desk()
        self.assertIsNone(desk.shared)
        lines = ("write 0 0", "back", "text", "read", "safe 1", "safe any", "marks")
        self.check_refused(desk, *lines)
        self.check_lines(desk, ("step 0 a; 0", "done"))
        self.check_refused(desk, *lines)
        self.check_lines(desk, ("begin 1", "done"), ("text", "none"))

    def test_steps(self):
        desk = Desk()
        self.check_lines(desk, ("step 1 b; 0", "done"), ("step 1 b; 0", "no"), ("step 0 @a 1", "done"),
                         ("step 0 @a 1", "no"), ("step 1 b; 0", "no"), ("begin 2", "done"))
        self.assertEqual(desk.shared, Shared(HALF))
        # They stay collected; what is collected behind it is for the next one.
        self.check_lines(desk, ("write 0 0", "Aa"), ("step 1 c; 0", "done"), ("write 0 2", "no"), ("text", "Aa"),
                         ("begin 3", "done"), ("text", "none"), ("write 2 0", "Ca"), ("write 2 2", "c;"))
        self.assertEqual(desk.shared.copy().weaving, ((2, 0), (2, 2)))

    def test_steps_that_are_no_framing(self):
        desk = Desk()
        self.check_refused(desk, "begin 2")
        self.check_lines(desk, ("step 0 a 1", "done"), ("begin 2", "no"), ("step 2 b; 0", "done"), ("begin 2", "no"))
        self.assertIsNone(desk.shared)
        self.check_lines(desk, ("step 1 a 2", "done"), ("begin 2", "done"), ("write 1 0", "a"), ("step 1 a 3", "done"))
        # The former one stays.
        self.check_refused(desk, "begin 2")
        self.check_lines(desk, ("text", "a"), ("step 3 ; 0", "done"), ("begin 2", "done"), ("text", "none"))

    def test_many_steps(self):
        desk = Desk()
        for sign in "abcdefghijklmnop":
            self.check_lines(desk, (f"step 0 {sign}; 0", "done"))
        self.check_lines(desk, ("begin 2", "done"), ("write 1 15", "p;"), ("write 1 16", "no"))
        # A 17th one is a STEP, and not among them; but they are no FRAMING any more.
        self.check_lines(desk, ("step 0 q; 0", "done"), ("step 0 q; 0", "no"))
        self.check_refused(desk, "begin 2")
        self.check_lines(desk, ("text", "p;"))

    def test_begin(self):
        desk = desk_of(WIDE)
        for writers in range(1, 9):
            self.check_lines(desk, (f"begin {writers}", "done"))
            self.assertEqual(desk.shared, Shared(WIDE, writers))
        self.check_refused(desk, "begin 0", "begin 9", "begin 10", "begin " + "9" * 1990)
        desk = desk_of(WHEELS)
        self.assertIsNone(desk.shared)
        self.check_refused(desk, "begin 2")

    def test_write(self):
        desk = desk_of(HALF)
        self.check_lines(desk, ("write 1 0", "Ba"))
        self.check_refused(desk, "write 1 0", "write 0 1", "write 2 0", "write 0 2", "write 8 0", "write 0 16",
                           "write " + "1" * 1000 + " " + "0" * 900, "write 0 " + "1" * 1900,
                           "write 0 " + "1" * 5000, "begin " + "1" * 5000, "safe " + "1" * 5000)
        for _ in range(99):
            self.check_lines(desk, ("write 0 0", "Aa"), ("write 0 1", "b;"))
        self.check_lines(desk, ("write 1 1", "b;"))
        self.check_refused(desk, "write 1 0")
        self.check_lines(desk, ("read", " ".join(["mixed"] + ["whole"] * 98 + ["mixed"])))

    def test_back(self):
        desk = desk_of(HALF)
        self.check_refused(desk, "back")
        self.check_lines(desk, ("write 0 0", "Aa"), ("back", "done"))
        self.check_refused(desk, "back")

    def test_safe(self):
        desk = desk_of(ONE)
        for writers in ("1", "2", "3", "4", "5", "any"):
            self.check_lines(desk, ("safe " + writers, "yes"))
        self.check_refused(desk, "safe 0", "safe 6", "safe 16")
        # The writers of a passing are numbered as they come, whoever has written here.
        desk = desk_of(((0, "@a", 1), (1, "@b", 2), (2, "c;", 0)), 8)
        self.check_lines(desk, ("write 7 0", "Ha"), ("safe 1", "yes"), ("safe 2", "no pass AaAbc;"), ("text", "Ha"))
        desk = desk_of(((0, "a", 1), (1, "@", 2), (2, "@;", 0)), 1)
        self.check_lines(desk, ("safe 1", "yes"), ("safe 2", "no pass aBB;"), ("marks", "0"))

    def test_safe_with_more_than_eight_writers(self):
        desk = desk_of(EIGHT, 1)
        self.check_lines(desk, ("safe 5", "yes"), ("safe any", "no pass AaaaaaaaA;"))
        self.assertEqual(len(passing(NINE, strict(NINE))[0]), 9)
        desk = desk_of(NINE)
        self.check_lines(desk, ("safe 1", "yes"), ("safe 5", "yes"))
        self.check_refused(desk, "safe any")

    def test_marks(self):
        self.check_lines(desk_of(ONE), ("marks", "none"))
        self.check_lines(desk_of(TWO), ("marks", "0 1 2 3"))
        self.check_lines(desk_of(((0, "a", 1), (1, "b", 2), (2, "c;", 0))), ("marks", "0 2"))
        self.check_lines(desk_of(((0, "a", 1), (1, ";", 0), (1, "a", 1))), ("marks", "never"))
        # More than eight steps without marks, and one of eight signs.
        self.check_refused(desk_of(WIDE), "marks")
        self.check_refused(desk_of(((0, "aaaaaaa;", 0),)), "marks")

    def test_the_very_shared(self):
        desk = desk_of(HALF)
        shared = desk.shared
        self.assertIs(type(shared), Shared)
        self.assertEqual(shared.write(0, 0), "Aa")
        self.check_lines(desk, ("text", "Aa"), ("write 0 1", "b;"), ("write 1 0", "Ba"))
        self.assertIs(desk.shared, shared)
        self.assertEqual(shared.weaving, ((0, 0), (0, 1), (1, 0)))
        shared.back()
        self.check_lines(desk, ("text", "Aab;"), ("read", "whole"))
        with self.assertRaises(AttributeError):
            desk.shared = None
        with shared.hold(0):
            self.check_lines(desk, ("write 1 0", "no"), ("back", "no"), ("write 0 0", "Aa"), ("text", "Aab;Aa"))
            self.check_lines(desk, ("begin 2", "done"), ("write 1 0", "Ba"))
            self.assertRaises(Held, shared.write, 1, 0)
        self.assertEqual((shared.text, desk.shared.text), ("Aab;Aa", "Ba"))

    def test_two_desks(self):
        one, other = desk_of(HALF), Desk()
        self.assertIsNone(other.shared)
        self.check_lines(other, ("step 0 @a 1", "done"), ("begin 2", "no"))
        self.check_lines(one, ("write 0 0", "Aa"), ("text", "Aa"))


if __name__ == "__main__":
    unittest.main()
