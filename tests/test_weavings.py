"""weavings.py: promises [4] and [5]."""

import itertools
import unittest

from samples import BAD_FRAMINGS, FLAT, FRAMINGS, HALF, ODD, ONE, TWO, WIDE
from tornlines.errors import BadFraming, BadWeaving, OutOfPlace
from tornlines.weavings import file_of, is_whole_line, need_weaving, read_lines, rest_of, stands

EXAMPLE = ((0, 0), (1, 0), (0, 1), (1, 1))
ODD_ENTRIES = ODD + (
    (), (0,), (0, 0, 0), [0, 0], "00", ((0, 0),),
    (-1, 0), (8, 0), (True, 0), (False, 0), (None, 0), ("0", 0), ("A", 0), (0.0, 0), ([], 0), (10 ** 999, 0),
    (0, -1), (0, -2), (0, 16), (0, True), (0, False), (0, None), (0, "0"), (0, 0.0), (0, []), (0, 10 ** 999),
)


def told_number(framing, thing):
    """The number of the BadWeaving that need_weaving raises, or "none" of a weaving."""
    try:
        need_weaving(framing, thing)
    except BadWeaving as error:
        return error.number
    return "none"


def told_stands(framing, entries):
    """Where the writers stand behind entries, each seen by itself; None if its steps don't follow."""
    places = []
    for writer in range(8):
        steps = [framing[step] for other, step in entries if other == writer]
        goals = [0] + [step[2] for step in steps]
        if [step[0] for step in steps] != goals[:-1]:
            return None
        places.append(goals[-1])
    return tuple(places)


def told_whole(framing, entries):
    """True or False of a read line, None of what is none, each rule of [5] by itself."""
    ended = [framing[step][1].endswith(";") for writer, step in entries]
    if ended != [False] * (len(entries) - 1) + [True] or entries == ():
        return None
    for writer in range(8):
        steps = [framing[step] for other, step in entries if other == writer]
        for ahead, step in zip(steps, steps[1:]):
            if ahead[2] != step[0]:
                return None
    return len({writer for writer, step in entries}) == 1 and framing[entries[0][1]][0] == 0


def small_weavings(framing, writers, most):
    """All tuples of so few entries, weavings or not."""
    entries = [(writer, step) for writer in writers for step in range(len(framing))]
    for size in range(most + 1):
        yield from itertools.product(entries, repeat=size)


class NeedWeavingTest(unittest.TestCase):
    def test_itself(self):
        for framing, weaving in ((ONE, EXAMPLE), (ONE, ()), (FLAT, ((7, 0),)), (TWO, ((3, 1), (3, 3), (3, 0)))):
            self.assertIs(need_weaving(framing, weaving), weaving)

    def test_none_of_what_is_no_such_tuple(self):
        for thing in ODD + ([(0, 0)], list(EXAMPLE), "00", {0: (0, 0)}, {(0, 0)}, (None,) * 201, ((0, 0),) * 201):
            with self.assertRaises(BadWeaving) as caught:
                need_weaving(ONE, thing)
            self.assertIsNone(caught.exception.number)

    def test_at_most_200(self):
        for framing, part in ((FLAT, ((0, 0),)), (ONE, ((5, 0), (5, 1)))):
            full = part * (200 // len(part))
            self.assertEqual(len(full), 200)
            self.assertIs(need_weaving(framing, full), full)
            self.assertEqual(told_number(framing, full[:-1] + ((0, 99),)), 199)
            self.assertIsNone(told_number(framing, full + part[:1]))

    def test_what_is_no_entry(self):
        for entry in ODD_ENTRIES:
            for ahead in ((), ((1, 0),), ((0, 0), (0, 1)), EXAMPLE, EXAMPLE * 49 + EXAMPLE[:2]):
                self.assertEqual(told_number(ONE, ahead + (entry,)), len(ahead), entry)
                self.assertEqual(told_number(ONE, ahead + (entry, entry)), len(ahead), entry)

    def test_numbers_of_steps(self):
        for framing in FRAMINGS:
            for step in range(-20, 30):
                ours = 0 <= step < len(framing) and framing[step][0] == 0
                self.assertEqual(told_number(framing, ((0, step),)), "none" if ours else 0, step)

    def test_what_cannot_stand_there(self):
        self.assertEqual(told_number(ONE, ((0, 1),)), 0)
        self.assertEqual(told_number(ONE, ((0, 0), (0, 0))), 1)
        self.assertEqual(told_number(ONE, ((0, 0), (1, 1))), 1)
        self.assertEqual(told_number(ONE, ((0, 0), (0, 1), (0, 1))), 2)
        self.assertEqual(told_number(ONE, ((0, 0), (1, 0), (2, 0), (1, 0), (0, 0))), 3)
        self.assertEqual(told_number(WIDE, ((0, 1), (0, 5), (0, 5), (0, 8))), 3)
        self.assertEqual(told_number(WIDE, ((0, 1), (0, 5), (0, 5), (0, 7), (0, 12))), "none")

    def test_against_the_words_of_the_document(self):
        for framing, most in ((ONE, 5), (HALF, 4), (TWO, 4), (FLAT, 4), (WIDE, 2)):
            for thing in small_weavings(framing, (0, 7), most):
                wrong = [at for at in range(len(thing)) if told_stands(framing, thing[:at + 1]) is None]
                if told_number(framing, thing) != (wrong + ["none"])[0]:
                    self.fail((framing, thing))


class FileTest(unittest.TestCase):
    def test_examples(self):
        self.assertEqual(file_of(ONE, EXAMPLE), "AaBaAb;Bb;")
        self.assertEqual(file_of(HALF, ((1, 0), (0, 0), (0, 1), (0, 0), (1, 1), (0, 1))), "BaAab;Aab;b;")
        self.assertEqual(file_of(HALF, ((1, 0), (0, 0), (0, 1), (0, 0), (1, 1))), "BaAab;Aab;")

    def test_the_empty_one(self):
        for framing in FRAMINGS:
            self.assertEqual(file_of(framing, ()), "")

    def test_marks_of_all_writers(self):
        for writer, mark in enumerate("ABCDEFGH"):
            self.assertEqual(file_of(ONE, ((writer, 0), (writer, 1))), mark + "a" + mark + "b;")
        backwards = tuple((writer, 0) for writer in range(7, -1, -1))
        self.assertEqual(file_of(ONE, backwards), "HaGaFaEaDaCaBaAa")

    def test_more_and_no_marks_in_a_piece(self):
        framing = ((0, "@x@@", 1), (0, "a;", 0), (1, "@@;", 0))
        weaving = ((2, 0), (0, 1), (3, 0), (2, 2), (3, 2))
        self.assertEqual(file_of(framing, weaving), "CxCCa;DxDDCC;DD;")

    def test_a_full_one(self):
        weaving = ((0, 0), (7, 0), (0, 1), (7, 1)) * 50
        self.assertEqual(file_of(HALF, weaving), "AaHab;b;" * 50)


class StandsTest(unittest.TestCase):
    def test_stands(self):
        for framing in FRAMINGS:
            self.assertEqual(stands(framing, ()), (0,) * 8)
        self.assertEqual(stands(ONE, EXAMPLE), (0,) * 8)
        self.assertEqual(stands(ONE, EXAMPLE[:3]), (0, 1, 0, 0, 0, 0, 0, 0))
        self.assertEqual(stands(WIDE, ((7, 1), (7, 6), (0, 0), (3, 2), (7, 9), (3, 7))), (1, 0, 0, 4, 0, 0, 0, 5))

    def test_against_the_words_of_the_document(self):
        for framing, most in ((TWO, 4), (WIDE, 2)):
            for thing in small_weavings(framing, (1, 6), most):
                told = told_stands(framing, thing)
                if told is not None:
                    self.assertEqual(stands(framing, thing), told)


class ReadLinesTest(unittest.TestCase):
    def test_example(self):
        self.assertEqual(read_lines(ONE, EXAMPLE), (((0, 0), (1, 0), (0, 1)), ((1, 1),)))
        self.assertEqual(rest_of(ONE, EXAMPLE), ())
        self.assertEqual([is_whole_line(ONE, line) for line in read_lines(ONE, EXAMPLE)], [False, False])

    def test_none_of_them(self):
        for framing in FRAMINGS:
            self.assertEqual((read_lines(framing, ()), rest_of(framing, ())), ((), ()))
        weaving = ((0, 0), (4, 0), (2, 0))
        self.assertEqual((read_lines(ONE, weaving), rest_of(ONE, weaving)), ((), weaving))

    def test_both(self):
        weaving = ((0, 0), (1, 0), (1, 1), (2, 0), (0, 1), (3, 0), (1, 0))
        self.assertEqual(read_lines(ONE, weaving), (((0, 0), (1, 0), (1, 1)), ((2, 0), (0, 1))))
        self.assertEqual(rest_of(ONE, weaving), ((3, 0), (1, 0)))

    def test_lines_of_one_entry(self):
        self.assertEqual(read_lines(FLAT, ((0, 1), (0, 0), (5, 1))), (((0, 1),), ((0, 0),), ((5, 1),)))
        self.assertEqual(len(read_lines(FLAT, ((0, 0),) * 200)), 200)

    def test_parts_are_the_weaving(self):
        for framing, most in ((ONE, 4), (TWO, 4), (FLAT, 4), (WIDE, 2)):
            for thing in small_weavings(framing, (0, 1), most):
                if told_stands(framing, thing) is not None:
                    lines, rest = read_lines(framing, thing), rest_of(framing, thing)
                    self.assertIsInstance(lines, tuple)
                    self.assertEqual(sum(lines, ()) + rest, thing)
                    for line in lines:
                        self.assertIsInstance(line, tuple)
                        self.assertIs(is_whole_line(framing, line), told_whole(framing, line))
                        self.assertIsNotNone(told_whole(framing, line))
                    self.assertFalse([entry for entry in rest if framing[entry[1]][1].endswith(";")])


class IsWholeLineTest(unittest.TestCase):
    def test_whole(self):
        for writer in range(8):
            self.assertIs(is_whole_line(ONE, ((writer, 0), (writer, 1))), True)
        self.assertIs(is_whole_line(FLAT, ((6, 1),)), True)
        self.assertIs(is_whole_line(WIDE, ((3, 1), (3, 5), (3, 7), (3, 12))), True)

    def test_mixed(self):
        self.assertIs(is_whole_line(ONE, ((0, 0), (1, 1))), False)
        self.assertIs(is_whole_line(ONE, ((1, 0), (0, 0), (0, 1))), False)
        self.assertIs(is_whole_line(ONE, ((0, 0), (1, 0), (0, 1))), False)
        self.assertIs(is_whole_line(ONE, ((4, 1),)), False)
        self.assertIs(is_whole_line(WIDE, ((3, 5), (3, 7), (3, 12))), False)
        self.assertIs(is_whole_line(WIDE, ((3, 3), (2, 4), (3, 9), (2, 11), (3, 14))), False)

    def test_out_of_place(self):
        things = ODD + ([(0, 0), (0, 1)], "00", (0, 1), {(0, 1)}, {(0, 1): 1})
        things += tuple((entry,) for entry in ODD_ENTRIES) + tuple(((0, 0), entry, (0, 1)) for entry in ODD_ENTRIES)
        things += tuple(((0, 0), entry) for entry in ODD_ENTRIES)
        things += (
            (), ((0, 0),), ((0, 0), (1, 0)),
            ((0, 0), (0, 1), (0, 0), (0, 1)), ((0, 1), (0, 0)), ((0, 1), (1, 1)), ((0, 0), (0, 1), (1, 0)),
            ((0, 0), (0, 0), (0, 1)), ((0, 0), (1, 0), (0, 0), (1, 1)), ((0, 0), (1, 0), (1, 0), (0, 1)),
        )
        for thing in things:
            with self.assertRaises(OutOfPlace, msg=thing):
                is_whole_line(ONE, thing)
        for thing in (((0, 5), (0, 9), (0, 13)), ((0, 5), (1, 3), (0, 8), (1, 13)), ((0, 13), (0, 0), (0, 13))):
            with self.assertRaises(OutOfPlace, msg=thing):
                is_whole_line(WIDE, thing)

    def test_a_line_may_be_longer_than_a_weaving(self):
        line = ((0, 1),) + ((0, 5),) * 300 + ((0, 7), (0, 12))
        self.assertIs(is_whole_line(WIDE, line), True)
        self.assertIs(is_whole_line(WIDE, line[1:]), False)

    def test_against_the_words_of_the_document(self):
        for framing, most in ((ONE, 4), (HALF, 4), (TWO, 4), (FLAT, 3), (WIDE, 3)):
            for thing in small_weavings(framing, (0, 7), most):
                try:
                    told = is_whole_line(framing, thing)
                except OutOfPlace:
                    told = None
                if told is not told_whole(framing, thing):
                    self.fail((framing, thing))


class WrongArgumentsTest(unittest.TestCase):
    def test_wrong_framings(self):
        wrong = BAD_FRAMINGS + tuple((thing, None) for thing in ODD)
        for ask in (need_weaving, file_of, read_lines, rest_of, is_whole_line, stands):
            for thing, number in wrong:
                # What stands behind a wrong framing is not looked at.
                for other in ((), ((0, 0), (0, 1)), None, ((9, 9),)):
                    with self.assertRaises(BadFraming) as caught:
                        ask(thing, other)
                    self.assertEqual(caught.exception.number, number)

    def test_wrong_weavings(self):
        wrong = ((None, None), ([], None), (((0, 0),) * 201, None), (((0, 1),), 0), (((0, 0), (0, 0)), 1),
                 (((0, 0), (8, 0)), 1), (EXAMPLE + ((0, True),), 4))
        for ask in (need_weaving, file_of, read_lines, rest_of, stands):
            for thing, number in wrong:
                with self.assertRaises(BadWeaving) as caught:
                    ask(ONE, thing)
                self.assertEqual(caught.exception.number, number)


if __name__ == "__main__":
    unittest.main()
