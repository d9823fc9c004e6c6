"""framings.py: promises [2] and [3]."""

import itertools
import unittest

from samples import BAD_FRAMINGS, FLAT, FRAMINGS, HALF, ODD, ONE, TWO, WIDE
from tornlines.errors import BadFraming, OutOfPlace
from tornlines.framings import (is_line, is_piece, line_from, line_text, need_framing, standings,
                                way_to)

LISTED = "abcdefghijklmnopqrstuvwxyz0123456789@"


def told_number(thing):
    """The number of the BadFraming that need_framing raises, or "none" of a framing."""
    try:
        need_framing(thing)
    except BadFraming as error:
        return error.number
    return "none"


def told_line(framing, thing):
    """Whether a tuple of numbers of steps is a line, step by step as [3] tells it."""
    if thing == () or framing[thing[0]][0] != 0:
        return False
    for ahead, number in zip(thing, thing[1:]):
        if framing[ahead][2] != framing[number][0]:
            return False
    ended = [framing[number][1].endswith(";") for number in thing]
    return ended == [False] * (len(thing) - 1) + [True]


def first_way(framing, begin, goal):
    """The least of the shortest ways, with a step at least, from begin to goal, by trying all."""
    for size in itertools.count(1):
        ways = []
        for way in itertools.product(range(len(framing)), repeat=size):
            places = [begin] + [framing[number][2] for number in way]
            if [framing[number][0] for number in way] == places[:-1] and places[-1] == goal:
                ways.append(way)
        if ways:
            return min(ways)


class IsPieceTest(unittest.TestCase):
    def test_each_listed_sign(self):
        for sign in LISTED:
            for piece in (sign, sign + ";", "a" + sign, sign * 8, sign * 7 + ";"):
                self.assertIs(is_piece(piece), True, piece)

    def test_signs_that_are_not_listed(self):
        for code in list(range(0, 400)) + [0x2003, 0x3a9, 0x661, 0xff10, 0xd800, 0x1d7d8]:
            sign = chr(code)
            if sign not in LISTED and sign != ";":
                for piece in (sign, "a" + sign, sign + "a", "a" + sign + "a", sign + ";", "a;" + sign):
                    self.assertIs(is_piece(piece), False, repr(piece))

    def test_a_newline(self):
        for piece in ("\n", "a\n", "a;\n", "a\n;", "\na"):
            self.assertIs(is_piece(piece), False, repr(piece))

    def test_how_many_signs(self):
        for many in range(0, 30):
            self.assertIs(is_piece("a" * many), 1 <= many <= 8, many)
            self.assertIs(is_piece("a" * many + ";"), many <= 7, many)
        self.assertIs(is_piece("a" * 100000), False)

    def test_the_end_sign(self):
        for piece in (";", "a;", "@;", "0123456;"):
            self.assertIs(is_piece(piece), True, piece)
        for piece in (";;", ";a", "a;b", "a;;", ";a;", "abcdefg;;", "abcdefgh;", ";@"):
            self.assertIs(is_piece(piece), False, piece)

    def test_things_that_are_no_texts(self):
        things = ODD + (b";", ("a",), ["a"], ("a", ";"), {"a": 1}, {"a"}, 1, 0, [[]])
        for thing in things:
            self.assertIs(is_piece(thing), False, thing)


class NeedFramingTest(unittest.TestCase):
    def test_itself(self):
        for framing in FRAMINGS:
            self.assertIs(need_framing(framing), framing)

    def test_none_of_what_is_no_such_tuple(self):
        things = ODD + ((), [], list(ONE), {0: ONE[0]}, "ab", ONE[:1] * 17, WIDE + (WIDE[-1],), (None,) * 17)
        for thing in things:
            with self.assertRaises(BadFraming) as caught:
                need_framing(thing)
            self.assertIsNone(caught.exception.number)

    def test_sixteen_steps_are_a_framing(self):
        self.assertEqual(len(WIDE), 16)
        self.assertIs(need_framing(WIDE), WIDE)
        self.assertIsNone(told_number(WIDE + ((5, "z", 5),)))
        flat = tuple((0, sign + ";", 0) for sign in "abcdefghijklmnopq")
        self.assertEqual(told_number(flat[:16]), "none")
        self.assertIsNone(told_number(flat))

    def test_one_step_is_a_framing(self):
        for piece in (";", "a;", "@;"):
            self.assertEqual(told_number(((0, piece, 0),)), "none")

    def test_what_is_no_step_by_itself(self):
        steps = ODD + (
            (), (0,), (0, "a;"), (0, "a;", 0, 0), [0, "a;", 0], "a;0",
            (-1, "a;", 0), (6, "a;", 0), (True, "a;", 0), (False, "a;", 0), ("0", "a;", 0), (None, "a;", 0),
            (0.0, "a;", 0), (10 ** 999, "a;", 0), ([], "a;", 0),
            (0, "a", -1), (0, "a", 6), (0, "a", True), (0, "a;", False), (0, "a", "1"), (0, "a", None),
            (0, "a", 1.0), (0, "a", 10 ** 999), (0, "a", ()),
            (0, "", 1), (0, "A", 1), (0, ";a", 1), (0, "abcdefghi", 1), (0, b"a;", 0), (0, None, 1), (0, ["a"], 1),
            (0, "a", 0), (0, "a;", 1), (0, ";", 5), (0, "@", 0),
        )
        for step in steps:
            self.assertEqual(told_number((step,)), 0, step)
            self.assertEqual(told_number((step, ONE[1])), 0, step)
            self.assertEqual(told_number(((0, "0;", 0), step)), 1, step)
            self.assertEqual(told_number(ONE + (step,)), 2, step)
            self.assertEqual(told_number(WIDE[:15] + (step,)), 15, step)

    def test_the_first_one_is_told(self):
        self.assertEqual(told_number((ONE[0], ONE[1], None, None)), 2)
        self.assertEqual(told_number((ONE[1], ONE[0], None)), 1)
        self.assertEqual(told_number((ONE[0], None, ONE[0])), 1)
        self.assertEqual(told_number((None,) * 16), 0)

    def test_ascending_and_none_twice(self):
        self.assertEqual(told_number((ONE[1], ONE[0])), 1)
        self.assertEqual(told_number((ONE[0], ONE[0], ONE[1])), 1)
        self.assertEqual(told_number((ONE[0], ONE[1], ONE[1])), 2)
        self.assertEqual(told_number((ONE[0], ONE[1], ONE[0])), 2)
        for at in range(len(WIDE) - 1):
            turned = WIDE[:at] + (WIDE[at + 1], WIDE[at]) + WIDE[at + 2:]
            self.assertEqual(told_number(turned), at + 1)
        # The order is Python's: 0 stands ahead of ; and ; ahead of @ and of a.
        self.assertEqual(told_number(((0, "0;", 0), (0, ";", 0), (0, "@;", 0), (0, "a;", 0))), "none")
        self.assertEqual(told_number(((0, "a;", 0), (0, "@;", 0))), 1)
        self.assertEqual(told_number(((0, "a", 1), (0, "a", 2), (1, ";", 0), (2, ";", 0))), "none")
        self.assertEqual(told_number(((0, "a", 2), (0, "a", 1), (1, ";", 0), (2, ";", 0))), 1)
        self.assertEqual(told_number(((0, "a", 1), (0, "ab", 1), (1, ";", 0))), "none")

    def test_standings_that_cannot_be_reached(self):
        for framing in (
            ((1, "a;", 0),),
            ((1, "a", 1),),
            ((0, "a;", 0), (1, "b;", 0)),
            ((0, "a", 1), (1, "b;", 0), (2, "c", 1)),
            ((0, "a;", 0), (2, "b", 3), (3, "b", 2), (3, "c;", 0)),
            ((1, "a", 2), (2, "a", 1)),
        ):
            self.assertEqual(told_number(framing), -1, framing)

    def test_standings_from_which_0_cannot_be_reached(self):
        for framing in (
            ((0, "a", 1),),
            ((0, "a", 1), (1, "b", 1)),
            ((0, "a", 1), (0, "b;", 0)),
            ((0, "a", 1), (1, "b", 2), (1, "b;", 0)),
            ((0, "a", 1), (1, "b", 2), (1, "b;", 0), (2, "c", 3), (3, "c", 2)),
        ):
            self.assertEqual(told_number(framing), -1, framing)

    def test_long_ways_are_framings(self):
        chain = ((0, "a", 5), (1, ";", 0), (2, "a", 1), (3, "a", 2), (4, "a", 3), (5, "a", 4))
        self.assertEqual(told_number(chain), "none")
        self.assertEqual(told_number(chain[:1] + chain[2:]), -1)
        for at in range(2, 6):
            self.assertEqual(told_number(chain[:at] + chain[at + 1:]), -1, at)


class StandingsTest(unittest.TestCase):
    def test_standings(self):
        self.assertEqual(standings(ONE), (0, 1))
        self.assertEqual(standings(HALF), (0, 1))
        self.assertEqual(standings(TWO), (0, 1))
        self.assertEqual(standings(FLAT), (0,))
        self.assertEqual(standings(WIDE), (0, 1, 2, 3, 4, 5))
        self.assertEqual(standings(((0, "a", 5), (0, "b", 2), (2, ";", 0), (5, ";", 0))), (0, 2, 5))
        self.assertIsInstance(standings(ONE), tuple)


class WaysTest(unittest.TestCase):
    def test_examples(self):
        self.assertEqual((way_to(ONE, 0), way_to(ONE, 1)), ((), (0,)))
        self.assertEqual((line_from(ONE, 0), line_from(ONE, 1)), ((0, 1), (1,)))
        self.assertEqual((way_to(TWO, 1), line_from(TWO, 0), line_from(TWO, 1)), ((0,), (0, 2), (2,)))
        self.assertEqual((way_to(FLAT, 0), line_from(FLAT, 0)), ((), (0,)))

    def test_shorter_is_ahead_of_less(self):
        framing = ((0, "a", 1), (0, "b", 3), (1, "a", 2), (2, "a", 3), (2, "b;", 0), (3, ";", 0), (3, "a", 3))
        self.assertEqual(way_to(framing, 3), (1,))
        self.assertEqual(line_from(framing, 0), (1, 5))
        self.assertEqual(line_from(framing, 1), (2, 4))

    def test_the_least_of_the_shortest(self):
        # Both ways to 3 have two steps; the later step from the earlier standing wins over the earlier one.
        framing = ((0, "a", 4), (0, "b", 1), (1, "a", 3), (3, ";", 0), (4, "a", 3), (4, "b", 3))
        self.assertEqual(way_to(framing, 3), (0, 4))
        self.assertEqual(line_from(framing, 0), (0, 4, 3))

    def test_against_all_ways(self):
        # The ways from 0 to 5 of WIDE have three steps at least: no more need be tried.
        for framing in FRAMINGS:
            for standing in standings(framing):
                told = () if standing == 0 else first_way(framing, 0, standing)
                self.assertEqual(way_to(framing, standing), told)
                self.assertEqual(line_from(framing, standing), first_way(framing, standing, 0))

    def test_against_all_ways_in_many_framings(self):
        steps = [(0, "a", 1), (0, "b", 2), (0, "c;", 0), (1, "a", 2), (1, "a;", 0), (1, "b", 3),
                 (2, "a", 1), (2, "b", 3), (2, "c;", 0), (3, ";", 0), (3, "a", 2)]
        many = 0
        for size in range(1, 7):
            for framing in itertools.combinations(steps, size):
                if told_number(framing) == "none":
                    many += 1
                    for standing in standings(framing):
                        told = () if standing == 0 else first_way(framing, 0, standing)
                        self.assertEqual(way_to(framing, standing), told, (framing, standing))
                        self.assertEqual(line_from(framing, standing), first_way(framing, standing, 0))
        self.assertGreater(many, 100)

    def test_out_of_place(self):
        for framing in FRAMINGS:
            others = tuple(at for at in range(-3, 9) if at not in standings(framing))
            for thing in ODD + others + ((0,), (), [0], "0", "a", 0.0, 1.0):
                for ask in (way_to, line_from):
                    with self.assertRaises(OutOfPlace):
                        ask(framing, thing)


class LinesTest(unittest.TestCase):
    def test_examples(self):
        self.assertIs(is_line(ONE, (0, 1)), True)
        self.assertEqual(line_text(ONE, (0, 1)), "@a@b;")
        self.assertEqual(line_text(HALF, (0, 1)), "@ab;")
        lines = [line for size in range(4) for line in itertools.product(range(4), repeat=size) if is_line(TWO, line)]
        self.assertEqual(lines, [(0, 2), (0, 3), (1, 2), (1, 3)])
        self.assertEqual([line_text(TWO, line) for line in lines], ["ax;", "ay;", "bx;", "by;"])
        self.assertEqual(line_text(FLAT, (0,)), ";")

    def test_lines_of_any_length(self):
        line = (1,) + (5,) * 5000 + (7, 12)
        self.assertIs(is_line(WIDE, line), True)
        self.assertEqual(line_text(WIDE, line), "b" + "@" * 5000 + "ac;")

    def test_against_the_words_of_the_document(self):
        for framing in FRAMINGS:
            for size in range(0, 5):
                for thing in itertools.product(range(len(framing)), repeat=size):
                    told = told_line(framing, thing)
                    if is_line(framing, thing) is not told:
                        self.fail((framing, thing))
                    if told:
                        text = "".join(framing[number][1] for number in thing)
                        self.assertEqual(line_text(framing, thing), text)

    def test_what_is_no_line(self):
        self.refused(ONE, ODD + ("01", [0, 1], {0: 0, 1: 1}, range(2), b"\x00\x01"))
        self.refused(ONE, (
            (),
            (0, 2), (2,), (0, -1), (-2, -1), (-2, 1), (0, 10 ** 999),
            (0, True), (False, 1), (0, 1.0), ("0", "1"), (None, None), ((0, 1),), (0, [1]), ([], 1), (0, None),
            (1,), (1, 1), (1, 0, 1),
            (0, 0), (0, 0, 1), (0,),
            (0, 1, 0), (0, 1, 0, 1), (0, 1, 1), (0, 1, None), (0, 1, 2),
        ))
        self.refused(FLAT, ((0, 0), (0, 1), (2,), (-1,), (True,), (False,)))
        self.refused(WIDE, ((1, 5), (1, 12), (0, 4, 12, 0), (1, 5, 8), (4, 12), (16,), (0, 4, 16)))

    def refused(self, framing, things):
        for thing in things:
            self.assertIs(is_line(framing, thing), False, thing)
            with self.assertRaises(OutOfPlace):
                line_text(framing, thing)


class WrongFramingTest(unittest.TestCase):
    def test_refused_wherever_it_is_passed(self):
        asked = ((standings, ()), (way_to, (0,)), (line_from, (0,)), (is_line, ((0, 1),)), (line_text, ((0, 1),)))
        # What stands behind a wrong framing is not looked at.
        asked += ((way_to, (None,)), (line_from, ("x",)), (is_line, (None,)), (line_text, (None,)))
        wrong = BAD_FRAMINGS + tuple((thing, None) for thing in ODD)
        for ask, others in asked:
            for thing, number in wrong:
                with self.assertRaises(BadFraming) as caught:
                    ask(thing, *others)
                self.assertEqual(caught.exception.number, number)


if __name__ == "__main__":
    unittest.main()
