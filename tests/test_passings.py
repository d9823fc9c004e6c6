"""passings.py: promises [8] and [9]."""

import itertools
import random
import unittest

from samples import BAD_FRAMINGS, BAD_READERS, FLAT, FRAMINGS, HALF, ODD, ONE, TWO, WIDE
from told import fewest_entries, least_paper, random_framing, random_reader
from tornlines.errors import BadFraming, BadPaper, BadReader, OutOfPlace, TooGreat
from tornlines.passings import check_passing, fewest_writers, is_safe, passing, woven
from tornlines.readers import strict
from tornlines.weavings import file_of, is_whole_line, need_weaving, read_lines, stands

NUMBERS = (1, 2, 3, 4, 5, None)
WRONG_NUMBERS = (0, 6, -1, 7, True, False, "2", "", 2.0, (), (2,), [2], b"2", 10 ** 999, -10 ** 999, {}, object())
HALF_READER = strict(HALF)
HALF_PAPER = ((0, 1), ((0, 0), (1, 1)))

# A writer puts one "a" at most, since only the end of a line is behind it: each "a" needs a writer of its own.
LONELY = ((0, "x", 1), (1, "a", 2), (1, "b;", 0), (2, "c;", 0))
# Likewise, but a line may begin with "a".
BEGUN = ((0, "a", 2), (0, "b;", 0), (2, "c;", 0))
# A loop: lines of any length.
LOOP = ((0, "a", 1), (1, ";", 0), (1, "a", 1))
LOOP_READER = strict(LOOP)
# Long ways: two steps to each of 2 and 4, and four to the end of the shortest line.
LONG = ((0, "a", 1), (0, "b", 3), (1, "a", 2), (2, "a", 5), (2, "x", 2), (3, "b", 4), (4, "b", 5), (4, "x", 4),
        (5, "c;", 0))


def row_reader(text):
    """A reader that takes this text alone."""
    signs = text.removesuffix(";")
    return (tuple((state, sign, state + 1) for state, sign in enumerate(signs)), (len(signs),))


class PaperTest(unittest.TestCase):
    def check_part(self, part, framing, reader, writers, paper):
        with self.assertRaises(BadPaper, msg=(framing, reader, writers, paper)) as caught:
            check_passing(framing, reader, writers, paper)
        self.assertEqual(caught.exception.part, part, (framing, reader, writers, paper))

    def check_shown(self, framing, reader, writers, size):
        """A passing of just so many entries, or None."""
        paper = passing(framing, reader, writers)
        self.assertEqual(paper and len(paper[1]), size, (framing, reader, writers))
        self.assertIs(is_safe(framing, reader, writers), size is None)
        if paper is not None:
            self.assertIs(check_passing(framing, reader, writers, paper), True)
            self.assertEqual(passing(framing, reader, writers), paper)


class PassingTest(PaperTest):
    def test_examples(self):
        for writers in NUMBERS:
            self.check_shown(ONE, strict(ONE), writers, None)
            self.check_shown(HALF, HALF_READER, writers, None if writers == 1 else 2)
            self.check_shown(TWO, strict(TWO), writers, None if writers == 1 else 2)
        for writers in NUMBERS[1:]:
            self.assertEqual(passing(HALF, HALF_READER, writers), HALF_PAPER)
            self.assertIs(check_passing(HALF, HALF_READER, writers, HALF_PAPER), True)
            self.assertIs(check_passing(TWO, strict(TWO), writers, ((0, 1), ((0, 0), (1, 2)))), True)

    def test_any_number_is_the_default(self):
        for framing in FRAMINGS:
            reader = strict(framing)
            self.assertEqual(passing(framing, reader), passing(framing, reader, None))
            self.assertIs(is_safe(framing, reader), is_safe(framing, reader, writers=None))
        # Six writers are needed.
        reader = row_reader("aaaab;")
        self.assertIs(is_safe(LONELY, reader), False)
        self.assertIs(is_safe(LONELY, reader, 5), True)

    def test_one_writer(self):
        dice = random.Random(91)
        for _ in range(200):
            framing = random_framing(dice)
            for reader in (strict(framing), random_reader(dice)):
                self.check_shown(framing, reader, 1, None)

    def test_one_that_began_ahead(self):
        framing = ((0, "a", 1), (0, "b;", 0), (1, "b;", 0))
        for writers in NUMBERS[1:]:
            self.assertEqual(passing(framing, strict(framing), writers), ((1,), ((0, 2),)))
        self.check_shown(framing, strict(framing), 1, None)
        self.check_shown(((0, "@", 1), (1, "@@;", 0)), row_reader("@@;"), 2, 1)

    def test_only_the_end(self):
        framing = ((0, ";", 0), (0, "a", 1), (1, ";", 0))
        self.assertEqual(passing(framing, strict(framing), 2), ((1,), ((0, 2),)))
        self.check_shown(FLAT, strict(FLAT), None, None)

    def test_some_number_of_writers(self):
        for many in range(0, 9):
            reader = row_reader("a" * many + "b;")
            for writers in (2, 3, 4, 5, None):
                # All begin within a line: so a further one has ENDED the line ahead.
                fits = writers is None or writers >= many + 2
                self.check_shown(LONELY, reader, writers, many + 1 if fits else None)
            self.assertEqual(fewest_writers(LONELY, reader), min(many + 2, 6))
        begins, entries = passing(LONELY, row_reader("a" * 8 + "b;"))
        self.assertEqual(begins, (1,) * 9)

    def test_some_number_of_writers_one_of_them_at_0(self):
        for many in range(1, 9):
            reader = row_reader("a" * many + "b;")
            for writers in (2, 3, 4, 5, None):
                fits = writers is None or writers >= many + 1
                self.check_shown(BEGUN, reader, writers, many + 1 if fits else None)
            self.assertEqual(fewest_writers(BEGUN, reader), min(many + 1, 6))

    def test_0_has_to_be_in_begins(self):
        framing = ((0, "x", 1), (0, "y", 2), (1, "a", 3), (2, "b;", 0), (3, "c;", 0))
        reader = row_reader("ab;")
        self.check_shown(framing, reader, 2, None)
        self.assertEqual(passing(framing, reader, 3), ((1, 2), ((0, 2), (1, 3))))
        self.assertEqual(fewest_writers(framing, reader), 3)
        # For two writers a longer one serves, in which the first one begins the line.
        reader = (reader[0] + ((0, "x", 0),), reader[1])
        reader = (tuple(sorted(reader[0])), reader[1])
        self.assertEqual(passing(framing, reader, 2), ((0, 2), ((0, 0), (0, 2), (1, 3))))
        self.assertEqual(passing(framing, reader, 3), ((1, 2), ((0, 2), (1, 3))))
        self.assertEqual(fewest_writers(framing, reader), 2)

    def test_marks_of_one_writer_alone(self):
        framing = ((0, "@a", 1), (1, "@b;", 0), (1, "b;", 0), (1, "c", 1))
        # What is marked is by one writer; another one puts what is not.
        self.assertEqual(passing(framing, row_reader("@ab;"), 2), ((0, 1), ((0, 0), (1, 2))))
        self.check_shown(framing, row_reader("@a@b;"), None, None)
        self.check_shown(framing, row_reader("@ac@b;"), None, 3)
        self.assertEqual(passing(framing, row_reader("@ac@b;"), 2), ((0, 1), ((0, 0), (1, 3), (0, 1))))
        # The first one puts nothing marked ahead of the other.
        self.check_shown(framing, row_reader("c@b;"), 2, 2)
        self.check_shown(framing, row_reader("c@ac@b;"), 2, 4)

    def test_a_marked_writer_goes_on(self):
        # "@" is put by the one that did so, who must not have gone elsewhere.
        framing = ((0, "@", 1), (0, "b", 3), (1, "@", 2), (1, "a", 1), (2, "c;", 0), (3, "a", 3), (3, "d;", 0))
        for text, size in (("@@c;", 3), ("@a@c;", 4), ("@@ac;", 4), ("@@d;", 3), ("@c;", 2), ("@@@c;", None),
                           ("b@@d;", 4), ("@b@c;", 4), ("b@@c;", 4), ("bd;", 2), ("b;", None), ("@@@;", None)):
            self.check_shown(framing, row_reader(text), None, size)
            self.check_shown(framing, row_reader(text), 4, size)

    def test_writers_that_could_be_one(self):
        # The same one that began at 0 could go on alone, but then the line is not mixed.
        framing = ((0, "a", 1), (1, "b", 2), (2, "c;", 0))
        paper = passing(framing, strict(framing))
        self.assertEqual(len(paper[1]), 3)
        self.assertGreater(len(paper[0]), 1)
        self.check_shown(framing, strict(framing), 2, 3)

    def test_all_kinds_of_framings_and_readers(self):
        dice = random.Random(81)
        found = {}
        for _ in range(400):
            framing = random_framing(dice, dice.choice(("ab@", "ab", "a@")), dice.randint(2, 7), 3, 2)
            for reader in (strict(framing), random_reader(dice)):
                for writers in (1, 2, 3):
                    size = fewest_entries(framing, reader, writers)
                    self.check_shown(framing, reader, writers, size)
                    found[writers, size] = True
                self.assertIs(is_safe(framing, reader), least_paper(framing, reader) is not None)
        for size in (None, 1, 2, 3, 4):
            self.assertIn((2, size), found)

    def test_many_writers_are_needed(self):
        dice = random.Random(82)
        found = {}
        for _ in range(3000):
            framing = random_framing(dice, dice.choice(("ab@", "abc")), 8, 5, 1)
            text = "".join(dice.choice("ab@c") for _ in range(dice.randint(3, 6)))
            reader = row_reader(text)
            many = fewest_writers(framing, reader)
            if many not in (None, 2):
                found[many] = found.get(many, 0) + 1
                sizes = [fewest_entries(framing, reader, writers) for writers in range(1, 6)]
                for writers, size in enumerate(sizes, 1):
                    self.check_shown(framing, reader, writers, size)
                self.assertEqual([size is not None for size in sizes], [writers >= many for writers in range(1, 6)])
        self.assertEqual(sorted(found), [3, 4, 5, 6])

    def test_for_any_number_as_for_enough(self):
        dice = random.Random(83)
        for _ in range(1500):
            framing = random_framing(dice, "ab@", 6, 4, 1)
            reader = row_reader("".join(dice.choice("ab@") for _ in range(dice.randint(1, 3))))
            size = fewest_entries(framing, reader, 5)
            self.check_shown(framing, reader, None, size)

    def test_long_ones(self):
        # Each "a" by the one writer, back and forth; the last sign is another one's.
        framing = ((0, "a", 1), (1, "a", 2), (1, "c;", 0), (2, "a", 1), (2, "b;", 0))
        for many in (10, 11, 198):
            reader = row_reader("a" * many + "b;")
            self.check_shown(framing, reader, None, many + 1)
            self.check_shown(framing, reader, 2, many + 1)
        # All signs but the last one can be put by one writer alone, or by many.
        rules = tuple((state, "a", (state + 1) % 199) for state in range(199)) + ((198, "b", 199),)
        reader = (tuple(sorted(rules)), (199,))
        framing = ((0, "a", 1), (1, ";", 0), (1, "a", 1), (1, "b", 1))
        for writers in (2, 3, 5, None):
            self.check_shown(framing, reader, writers, 200)
        # Around four times, five signs each: 795 is the least number that leaves 198 of 199.
        framing = ((0, "aaaaa", 1), (1, "aaaaa", 1), (1, "b;", 0), (1, "x;", 0))
        self.check_shown(framing, reader, 2, 160)

    def test_each_writer_begins_within_a_line(self):
        framing = ((0, "x", 1), (0, "x", 2), (1, "a", 1), (1, "a;", 0), (2, "b", 2), (2, "b;", 0))
        self.check_shown(framing, row_reader("ab;"), 2, None)
        self.check_shown(framing, row_reader("ab;"), 3, 2)
        self.check_shown(framing, row_reader("aabba;"), 3, 5)
        self.assertEqual(passing(framing, row_reader("abab;"), 3)[0], (1, 2))
        self.assertEqual(fewest_writers(framing, row_reader("aabba;")), 3)

    def test_what_never_passes(self):
        for framing in FRAMINGS:
            for reader in (((), ()), (((0, "a", 1),), ()), (((0, "a", 1), (1, "a", 1)), (7,)), row_reader("zz;")):
                for writers in NUMBERS:
                    self.check_shown(framing, reader, writers, None)

    def test_wrong_numbers_of_writers(self):
        for writers in WRONG_NUMBERS:
            for function in (passing, is_safe):
                self.assertRaises(OutOfPlace, function, HALF, HALF_READER, writers)
                self.assertRaises(OutOfPlace, function, HALF, HALF_READER, writers=writers)
                self.assertRaises(OutOfPlace, function, FLAT, ((), ()), writers)
            self.assertRaises(OutOfPlace, check_passing, HALF, HALF_READER, writers, HALF_PAPER)
            self.assertRaises(OutOfPlace, check_passing, HALF, HALF_READER, writers, None)

    def test_arguments_are_checked_from_left_to_right(self):
        for function, further in ((passing, (6,)), (passing, ()), (is_safe, (6,)), (fewest_writers, ()),
                                  (check_passing, (6, None)), (check_passing, (None, None))):
            for thing, number in BAD_FRAMINGS:
                for reader in (None, HALF_READER):
                    with self.assertRaises(BadFraming) as caught:
                        function(thing, reader, *further)
                    self.assertEqual(caught.exception.number, number)
            for thing, part, number in BAD_READERS:
                with self.assertRaises(BadReader) as caught:
                    function(HALF, thing, *further)
                self.assertEqual((caught.exception.part, caught.exception.number), (part, number))
            for thing in ODD:
                self.assertRaises(BadFraming, function, thing, HALF_READER, *further)
                self.assertRaises(BadReader, function, HALF, thing, *further)
        for thing, number in BAD_FRAMINGS:
            with self.assertRaises(BadFraming) as caught:
                woven(thing, None)
            self.assertEqual(caught.exception.number, number)
        for thing in ODD:
            self.assertRaises(BadFraming, woven, thing, HALF_PAPER)


class FewestWritersTest(unittest.TestCase):
    def test_examples(self):
        self.assertIsNone(fewest_writers(ONE, strict(ONE)))
        self.assertIsNone(fewest_writers(FLAT, strict(FLAT)))
        for framing in (HALF, TWO, WIDE):
            self.assertEqual(fewest_writers(framing, strict(framing)), 2)

    def test_each_number(self):
        for many, told in ((1, 3), (2, 4), (3, 5), (4, 6), (5, 6), (20, 6)):
            self.assertEqual(fewest_writers(LONELY, row_reader("a" * many + "b;")), told)

    def test_fewer_writers_by_a_longer_line(self):
        # The shortest one takes six writers, longer ones take fewer.
        rules = [(state, "a", state + 1) for state in range(5)] + [(5, "b", 6), (0, "d", 7), (7, "a", 8), (8, "b", 6)]
        framing = tuple(sorted(LONELY + ((1, "d", 1), (2, "e", 1))))
        for further, told in (((), 3), (((7, "d", 9), (8, "d", 9)), 3)):
            reader = (tuple(sorted(rules + list(further))), (6,))
            self.assertEqual(fewest_writers(framing, reader), told)
        reader = (tuple(sorted(rules[:6])), (6,))
        self.assertEqual(fewest_writers(framing, reader), 6)

    def test_without_marked_pieces(self):
        dice = random.Random(92)
        found = {}
        for _ in range(300):
            framing = random_framing(dice, "ab", dice.randint(1, 6), dice.randint(1, 4), 2, ("", "a", "b"))
            told = None if all(start == 0 == goal for start, piece, goal in framing) else 2
            self.assertEqual(fewest_writers(framing, strict(framing)), told, framing)
            found[told] = True
        self.assertEqual(len(found), 2)

    def test_with_marks_alone(self):
        # [11]: if all pieces are marked, two writers are too many, or none are.
        dice = random.Random(93)
        for _ in range(200):
            framing = random_framing(dice, "@", dice.randint(1, 6), 4, 3, ("@", "@@"))
            self.assertIn(fewest_writers(framing, strict(framing)), (None, 2), framing)


class CheckPassingTest(PaperTest):
    def test_form(self):
        papers = ODD + ((), ((0, 1),), ((0, 1), ((0, 0), (1, 1)), ()), [(0, 1), ((0, 0), (1, 1))],
                        ([0, 1], ((0, 0), (1, 1))), ((0, 1), [(0, 0), (1, 1)]), (None, ()), ((), None), (0, 1), "ab",
                        ("", ()), ((), ""), ({}, ()), ((), {}), (b"", b""), ([9], [9]))
        for paper in papers:
            for writers in NUMBERS:
                self.check_part("form", HALF, HALF_READER, writers, paper)

    def test_begins(self):
        entries = ((0, 0), (1, 1))
        for begin in ODD + (2, 5, 6, -1, "1", (1,), [1], 1.0, (0, 1)):
            for begins in ((begin,), (0, begin), (begin, 0), (0, 1, begin)):
                self.check_part("begins", HALF, HALF_READER, None, (begins, entries))
                self.check_part("begins", HALF, HALF_READER, 2, (begins, ()))

    def test_too_many_writers_begin(self):
        # Two writers with nobody at 0 are three, and so on.
        for many in range(1, 10):
            for begins in ((1,) * many, (0,) + (1,) * (many - 1), (1,) * (many - 1) + (0,), (0,) * many):
                entries = tuple((writer, 1 if begin == 1 else 0) for writer, begin in enumerate(begins[:-1]))
                for writers in (1, 2, 3, 4, 5):
                    if many < writers or (many == writers and 0 in begins):
                        with self.assertRaises(BadPaper) as caught:
                            check_passing(HALF, HALF_READER, writers, (begins, (0, 0)))
                        self.assertEqual(caught.exception.part, "entries")
                    else:
                        self.check_part("begins", HALF, HALF_READER, writers, (begins, entries))
                self.check_part("entries", HALF, HALF_READER, None, (begins, (0, 0)))

    def test_entries(self):
        begins = (0, 1)
        for entries in (
            (), ((0, 0),), ((1, 1),), ((0, 0), (0, 1)), ((1, 1), (0, 0)),
            ((0, 1), (1, 1)), ((0, 0), (1, 0)), ((0, 0), (0, 0), (1, 1)), ((0, 0), (1, 1), (0, 1)),
            ((0, 0), (1, 1), (1, 0)), ((0, 0), (2, 1)), ((0, 0), (-1, 1)), ((0, 0), (1, 2)), ((0, 0), (1, -1)),
            ((0, 0), (True, 1)), ((0, 0), (1, True)), ((False, 0), (1, 1)), ((0, False), (1, 1)), ((0, 0), [1, 1]),
            ([0, 0], (1, 1)), ((0, 0), (1, 1, 1)), ((0, 0), (1,)), ((0, 0), None), (None, (1, 1)), ((0, 0), "11"),
            ((0, 0), ("1", 1)), ((0, 0), (1, "1")), ((0, 0), (1.0, 1)), ((0, 0), (1, 10 ** 999)), ((0, 0), (1, None)),
            ((1, 0), (0, 1)), ((0, 0), (1, 1), None), ((0, 0), (1, 1), (1, 1)),
        ):
            for writers in (2, 3, None):
                self.check_part("entries", HALF, HALF_READER, writers, (begins, entries))
        for thing in ODD:
            self.check_part("entries", HALF, HALF_READER, 2, (begins, (thing, (1, 1))))
            self.check_part("entries", HALF, HALF_READER, 2, (begins, ((0, 0), thing)))

    def test_empty_ones(self):
        for writers in NUMBERS:
            self.check_part("entries", HALF, HALF_READER, writers, ((), ()))
            self.check_part("entries", HALF, HALF_READER, writers, ((), ((0, 0), (0, 1))))
            self.check_part("entries", FLAT, strict(FLAT), writers, ((), ((0, 0),)))

    def test_each_writer_stands_there(self):
        self.check_part("entries", HALF, HALF_READER, 4, ((0, 1, 0), ((0, 0), (1, 1))))
        self.check_part("entries", HALF, HALF_READER, 4, ((0, 1, 1), ((0, 0), (1, 1))))
        self.check_part("entries", HALF, HALF_READER, 4, ((0, 0, 1), ((0, 0), (2, 1))))
        self.check_part("entries", HALF, HALF_READER, 4, ((0, 0, 1), ((1, 0), (0, 0), (2, 1))))

    def test_the_last_alone_ends(self):
        reader = (((0, "a", 0),), (0,))
        framing = LOOP
        self.assertIs(check_passing(framing, reader, 2, ((0, 1), ((0, 0), (1, 1)))), True)
        for entries in (((0, 0), (1, 2)), ((0, 0), (1, 1), (0, 2)), ((0, 0), (1, 1), (0, 1)),
                        ((0, 0), (1, 1), (1, 0), (1, 1))):
            self.check_part("entries", framing, reader, 2, ((0, 1), entries))

    def test_whole(self):
        for writers in (1, 2, 5, None):
            self.check_part("whole", HALF, HALF_READER, writers, ((0,), ((0, 0), (0, 1))))
            self.check_part("whole", HALF, ((), ()), writers, ((0,), ((0, 0), (0, 1))))
            self.check_part("whole", FLAT, strict(FLAT), writers, ((0,), ((0, 1),)))
        self.assertIs(check_passing(HALF, row_reader("b;"), 2, ((1,), ((0, 1),))), True)

    def test_text(self):
        for writers in (2, 3, None):
            for reader in (((), ()), ((), (0,)), row_reader("@a;"), row_reader("@abb;"), row_reader("ab;"),
                           (HALF_READER[0], (0, 1, 2)), strict(ONE)):
                self.check_part("text", HALF, reader, writers, HALF_PAPER)

    def test_marks_of_unlike_writers(self):
        framing = ((0, "@", 1), (1, "@;", 0), (1, "a;", 0))
        reader = (((0, "@", 0), (0, "a", 0)), (0,))
        self.check_part("text", framing, reader, 2, ((0, 1), ((0, 0), (1, 1))))
        self.assertIs(check_passing(framing, reader, 2, ((0, 1), ((0, 0), (1, 2)))), True)
        self.assertIs(check_passing(framing, reader, 2, ((1,), ((0, 1),))), True)
        # However many writers there are.
        framing = ((0, "@", 1), (1, "@;", 0), (1, "a", 1))
        many = 1000
        middle = tuple((writer, 2) for writer in range(many))
        self.assertIs(check_passing(framing, reader, None, ((1,) * many, middle + ((7, 1),))), True)
        begins = (1,) * many + (0,)
        self.assertIs(check_passing(framing, reader, None, (begins, middle + ((many, 0), (many, 1)))), True)
        self.check_part("text", framing, reader, None, (begins, middle + ((many, 0), (0, 1))))
        self.check_part("text", framing, reader, None, (begins, middle + ((many, 0), (8, 1))))

    def test_the_parts_in_order(self):
        reader = ((), ())
        for paper, part in (
            (([7], ((9,),)), "form"),
            (((7,), [(9,)]), "form"),
            (((7,), ((9,),)), "begins"),
            (((1, 1), ((9,),)), "begins"),
            (((0,), ((9,),)), "entries"),
            (((0,), ((0, 0), (0, 1))), "whole"),
            (((1,), ((0, 1),)), "text"),
        ):
            self.check_part(part, HALF, reader, 2, paper)

    def test_longer_ones_hold_too(self):
        self.assertIs(check_passing(LOOP, LOOP_READER, 2, ((0, 1), ((0, 0), (1, 2), (0, 2), (1, 1)))), True)
        entries = ((0, 0),) + ((1, 2), (0, 2)) * 500 + ((1, 1),)
        self.assertIs(check_passing(LOOP, LOOP_READER, 2, ((0, 1), entries)), True)

    def test_all_small_papers(self):
        dice = random.Random(95)
        for _ in range(25):
            framing = random_framing(dice, "a@", 4, 2, 1)
            reader = random_reader(dice, "ab@", 3)
            best = fewest_entries(framing, reader, 2)
            pairs = [(writer, step) for writer in range(2) for step in range(len(framing))]
            sizes = []
            for begins in [row for many in range(3) for row in itertools.product((0, 1), repeat=many)]:
                for entries in [row for many in range(4) for row in itertools.product(pairs, repeat=many)]:
                    try:
                        check_passing(framing, reader, 2, (begins, entries))
                        sizes.append(len(entries))
                    except BadPaper:
                        pass
            self.assertEqual(min(sizes, default=None), best if best is not None and best <= 3 else None)


class WovenTest(unittest.TestCase):
    def check_woven(self, framing, paper, size=None):
        begins, entries = paper
        weaving = woven(framing, paper)
        self.assertIs(need_weaving(framing, weaving), weaving)
        lines = read_lines(framing, weaving)
        self.assertEqual(lines[-1], entries)
        ahead = weaving[:len(weaving) - len(entries)]
        self.assertEqual(stands(framing, ahead)[:len(begins)], begins)
        self.assertTrue(file_of(framing, ahead).endswith(";") or not ahead)
        if size is not None:
            self.assertEqual(len(weaving), size)
        return weaving

    def check_part(self, part, framing, paper):
        with self.assertRaises(BadPaper, msg=paper) as caught:
            woven(framing, paper)
        self.assertEqual(caught.exception.part, part, paper)

    def check_too_great(self, most, framing, paper):
        with self.assertRaises(TooGreat, msg=paper) as caught:
            woven(framing, paper)
        self.assertEqual(caught.exception.most, most, paper)

    def test_example(self):
        weaving = self.check_woven(HALF, HALF_PAPER)
        self.assertTrue(file_of(HALF, weaving).endswith(";Aab;"))
        self.assertIs(is_whole_line(HALF, read_lines(HALF, weaving)[-1]), False)

    def test_passings(self):
        dice = random.Random(97)
        for _ in range(300):
            framing = random_framing(dice, "ab@", 6, 4)
            for reader in (strict(framing), random_reader(dice)):
                for writers in NUMBERS:
                    paper = passing(framing, reader, writers)
                    if paper is not None and (writers is not None or len(paper[0]) < 8):
                        self.check_woven(framing, paper)

    def test_all_at_0(self):
        self.assertEqual(woven(HALF, ((0,), ((0, 0), (0, 1)))), ((0, 0), (0, 1)))
        self.assertEqual(woven(TWO, ((0, 0), ((0, 0), (1, 1), (0, 3)))), ((0, 0), (1, 1), (0, 3)))

    def test_the_line_may_be_whole_or_not_taken(self):
        self.check_woven(ONE, ((0,), ((0, 0), (0, 1))), 2)
        self.check_woven(ONE, ((1,), ((0, 1),)), 4)
        self.check_woven(ONE, ((0, 1), ((0, 0), (1, 1))), 5)
        self.check_woven(WIDE, ((5, 2, 0), ((0, 15), (1, 5), (2, 0), (1, 6), (0, 12))))

    def test_a_further_one_ends_the_line_ahead(self):
        weaving = self.check_woven(HALF, ((1,), ((0, 1),)), 4)
        self.assertEqual(weaving, ((0, 0), (1, 0), (1, 1), (0, 1)))

    def test_wrong_papers(self):
        for paper in ODD + ((), ((0,),), ([0], ((0, 0), (0, 1))), ((0,), [(0, 0), (0, 1)]), [(0,), ((0, 0), (0, 1))],
                            ((0,), ((0, 0), (0, 1)), None)):
            self.check_part("form", HALF, paper)
        for begin in ODD + (2, 5, 6, -1, "1", (1,)):
            self.check_part("begins", HALF, ((0, begin), ((0, 0), (0, 1))))
            self.check_part("begins", HALF, ((begin,) * 9, (None,)))
        for begins, entries in (
            ((), ()), ((0,), ()), ((0,), ((0, 0),)), ((0,), ((0, 1),)), ((1,), ((0, 0),)), ((0, 1), ((0, 0), (0, 1))),
            ((0, 1), ((1, 1), (0, 0))), ((0, 0), ((1, 0), (0, 0), (0, 1))), ((0,), ((0, 0), (0, 1), (0, 0))),
            ((0,), ((0, 0), [0, 1])), ((0,), ((False, 0), (0, 1))), ((0,), ((0, 0), (0, True))), ((1,) * 9, ()),
            ((0,) * 9, ((0, 0),) * 300),
        ):
            self.check_part("entries", HALF, (begins, entries))

    def test_eight_writers(self):
        def paper(begins):
            ahead = [(writer, 2) for writer, begin in enumerate(begins) if begin == 1]
            first = [(writer, 0) for writer, begin in enumerate(begins) if begin == 0]
            return (begins, tuple(sorted(ahead + first)) + ((0, 1),))

        for begins in ((1,) * 7, (1,) * 7 + (0,), (0,) + (1,) * 7, (0,) * 8, (1, 1, 0, 0, 1, 1, 1, 1)):
            self.check_woven(LOOP, paper(begins))
        for begins in ((1,) * 8, (1,) * 9, (0,) * 9, (0,) + (1,) * 8, (1,) * 8 + (0,), (1,) * 100):
            self.check_too_great(8, LOOP, paper(begins))

    def test_200_entries(self):
        def paper(begin, size):
            entries = [(0, 2)] * (size - 1) + [(0, 1)]
            if begin == 0:
                entries[0] = (0, 0)
            return ((begin,), tuple(entries))

        self.check_woven(LOOP, paper(0, 200), 200)
        self.check_too_great(200, LOOP, paper(0, 201))
        # One to bring it to 1, and two for a line.
        self.check_woven(LOOP, paper(1, 197), 200)
        self.check_too_great(200, LOOP, paper(1, 198))
        self.check_too_great(200, LOOP, paper(1, 5000))

    def test_200_entries_of_several(self):
        def paper(begins, size):
            loops = {2: 4, 4: 7}
            row = [(writer, loops.get(begin, 0)) for writer, begin in enumerate(begins)]
            row += [(0, loops[begins[0]])] * (size - len(row) - 2)
            return (begins, tuple(row) + ((0, 3 if begins[0] == 2 else 6), (0, 8)))

        # Two for each one at 2 or 4, and a line of four.
        for begins, ahead in (((2,), 6), ((2, 4), 8), ((4, 2, 0), 8), ((2,) * 7, 18), ((4,) * 7 + (0,), 18)):
            self.check_woven(LONG, paper(begins, 200 - ahead), 200)
            self.check_too_great(200, LONG, paper(begins, 201 - ahead))
        # Too many writers are told ahead of too many entries.
        self.check_too_great(8, LONG, paper((2,) * 8, 300))


if __name__ == "__main__":
    unittest.main()
