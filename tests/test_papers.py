"""papers.py: promise [10]."""

import random
import unittest

from samples import BAD_FRAMINGS, BAD_READERS, FLAT, FRAMINGS, HALF, ODD, ONE, TWO, WIDE
from told import leads_to, least_paper, random_framing, random_reader, stands_of
from tornlines.errors import BadFraming, BadPaper, BadReader, OutOfPlace
from tornlines.papers import check_safety, safety
from tornlines.passings import is_safe
from tornlines.readers import strict

BEGINNING = (0, "plain", 0)
EMPTY = ((), ())
STRICT_ONE = strict(ONE)
ONE_PAPER = (BEGINNING, (2, "marked", 1))
# Two standings, marks, and a reader that leads on from each state; it takes nothing.
OPEN = ((0, "@", 1), (0, "a", 2), (1, "a;", 0), (2, "@;", 0), (2, "b", 1))
OPEN_READER = (((0, "@", 1), (0, "a", 1), (1, "@", 1), (1, "a", 1), (1, "b", 2)), ())


def greatest_paper(framing, reader):
    """The greatest paper that holds: all stands but those from which some way leads to a line that passes."""
    moves = {stand: leads_to(framing, reader, stand) for stand in stands_of(framing)}
    bad = {stand for stand in moves if moves[stand][1]}
    while True:
        more = {stand for stand in moves if stand in bad or moves[stand][0] & bad}
        if more == bad:
            return tuple(sorted(set(moves) - bad))
        bad = more


class SafetyTest(unittest.TestCase):
    def test_example(self):
        self.assertEqual(safety(ONE, STRICT_ONE), ONE_PAPER)

    def test_0_alone(self):
        self.assertEqual(safety(FLAT, strict(FLAT)), (BEGINNING,))
        self.assertEqual(safety(FLAT, EMPTY), (BEGINNING,))
        self.assertEqual(safety(ONE, EMPTY), (BEGINNING,))

    def test_all_kinds(self):
        self.assertEqual(safety(OPEN, OPEN_READER), least_paper(OPEN, OPEN_READER))
        kinds = {kind for state, kind, standing in safety(OPEN, OPEN_READER)}
        self.assertEqual(kinds, {"plain", "marked", "free", "owned"})

    def test_not_safe(self):
        for framing in (HALF, TWO, WIDE):
            self.assertRaises(OutOfPlace, safety, framing, strict(framing))
        self.assertRaises(OutOfPlace, safety, ((0, "a", 1), (1, ";", 0)), ((), (0,)))

    def test_many(self):
        dice = random.Random(101)
        found = {}
        for _ in range(400):
            framing = random_framing(dice, dice.choice(("ab@", "@", "a@")), dice.randint(1, 7), dice.randint(1, 4), 2,
                                     ("@", "@a", "b@"))
            for reader in (strict(framing), random_reader(dice)):
                paper = least_paper(framing, reader)
                self.assertIs(is_safe(framing, reader), paper is not None)
                found[paper is None] = True
                if paper is None:
                    self.assertRaises(OutOfPlace, safety, framing, reader)
                else:
                    self.assertEqual(safety(framing, reader), paper, (framing, reader))
                    self.assertIs(check_safety(framing, reader, paper), True)
        self.assertEqual(len(found), 2)

    def test_wrong_arguments(self):
        for function, further in ((safety, ()), (check_safety, (None,))):
            for thing, number in BAD_FRAMINGS:
                with self.assertRaises(BadFraming) as caught:
                    function(thing, None, *further)
                self.assertEqual(caught.exception.number, number)
            for thing, part, number in BAD_READERS:
                for framing in (ONE, HALF):
                    with self.assertRaises(BadReader) as caught:
                        function(framing, thing, *further)
                    self.assertEqual((caught.exception.part, caught.exception.number), (part, number))
            for thing in ODD:
                self.assertRaises(BadFraming, function, thing, STRICT_ONE, *further)
                self.assertRaises(BadReader, function, ONE, thing, *further)


class CheckSafetyTest(unittest.TestCase):
    def check_part(self, part, framing, reader, paper):
        with self.assertRaises(BadPaper, msg=(framing, reader, paper)) as caught:
            check_safety(framing, reader, paper)
        self.assertEqual(caught.exception.part, part, (framing, reader, paper))

    def test_example(self):
        self.assertIs(check_safety(ONE, STRICT_ONE, ONE_PAPER), True)

    def test_greater_ones(self):
        # From (1, "free", 0) nothing leads on, from (4, ..) no more than an end does, where no piece is left.
        for further in ((1, "free", 0), (1, "marked", 1), (1, "plain", 1), (2, "marked", 1), (199, "free", 0),
                        (3, "owned", 1), (4, "free", 0), (100, "owned", 1)):
            paper = tuple(sorted(set(ONE_PAPER + (further,))))
            self.assertIs(check_safety(ONE, STRICT_ONE, paper), True)
        self.assertIs(check_safety(FLAT, EMPTY, ((0, "free", 0), BEGINNING)), True)

    def test_greatest_ones(self):
        dice = random.Random(103)
        held = 0
        for _ in range(60):
            framing = random_framing(dice, "ab@", 6, 3, 2, ("@", "@a", "b@"))
            for reader in (strict(framing), random_reader(dice)):
                paper = greatest_paper(framing, reader)
                if BEGINNING in paper:
                    held += 1
                    self.assertIs(check_safety(framing, reader, paper), True)
                    self.assertLessEqual(set(safety(framing, reader)), set(paper))
                else:
                    self.assertRaises(OutOfPlace, safety, framing, reader)
                    self.check_part("begin", framing, reader, paper)
        self.assertGreater(held, 10)

    def test_no_paper_of_what_is_not_safe(self):
        for framing in (HALF, TWO):
            reader = strict(framing)
            everything = tuple(sorted(stands_of(framing)))
            self.check_part("end", framing, reader, everything)
            for stand in leads_to(framing, reader, BEGINNING)[0]:
                self.check_part("step", framing, reader, (BEGINNING,))
                self.check_part("step", framing, reader, tuple(sorted(set(everything) - {stand})))

    def test_form(self):
        stands = ODD + (
            (), (0,), (0, "free"), (0, "free", 0, 0), [0, "free", 0], ("free", 0, 0), "free", (0, "Free", 0),
            (0, "", 0), (0, "none", 0), (0, "free ", 0), (0, None, 0), (0, b"free", 0), (0, ("free",), 0),
            (0, ["free"], 0), (1, "none", 1), (1, "", 1), (1, "Plain", 1), (1, "marked ", 1), (1, "free", 1),
            (1, None, 1), (1, 0, 1), (1, b"owned", 1), (1, ("owned",), 1), (1, ["owned"], 1),
            (-1, "free", 0), (200, "free", 0), (True, "free", 0), ("0", "free", 0), (None, "free", 0), (0.0, "free", 0),
            (10 ** 999, "free", 0), ([], "free", 0),
            (0, "free", 1), (0, "free", -1), (0, "free", False), (0, "free", None), (0, "free", "0"), (0, "free", []),
            (1, "plain", 0), (199, "plain", 0), (False, "plain", 0), (0, "plain", False), (0, "plain", 0.0),
            (0, "marked", 0), (0, "owned", 0), (1, "marked", 0), (1, "owned", 0),
            (1, "plain", 2), (1, "marked", 2), (1, "owned", 2), (1, "plain", 6), (1, "marked", -1), (1, "owned", True),
            (1, "marked", True), (1, "plain", True), (1, "marked", "1"), (1, "owned", None), (1, "owned", 10 ** 999),
        )
        for stand in stands:
            for paper in ((stand,), (BEGINNING, stand), (stand, (2, "marked", 1)), ONE_PAPER + (stand,)):
                self.check_part("form", ONE, STRICT_ONE, paper)

    def test_what_is_no_ascending_tuple(self):
        papers = ODD + (list(ONE_PAPER), set(ONE_PAPER), {BEGINNING: 1}, BEGINNING, ONE_PAPER[::-1], ONE_PAPER * 2,
                        (BEGINNING, BEGINNING), ONE_PAPER + (BEGINNING,), ONE_PAPER + ONE_PAPER[1:],
                        (BEGINNING, (0, "owned", 1), (2, "marked", 1)), (BEGINNING, (0, "free", 0)),
                        (BEGINNING, (2, "owned", 1), (2, "marked", 1)), ((1, "free", 0), BEGINNING))
        for paper in papers:
            self.check_part("form", ONE, STRICT_ONE, paper)

    def test_standings_of_the_framing(self):
        framing = ((0, "@a", 3), (3, "@b;", 0))
        self.assertEqual(safety(framing, STRICT_ONE), (BEGINNING, (2, "marked", 3)))
        self.check_part("form", framing, STRICT_ONE, ONE_PAPER)
        self.check_part("form", framing, STRICT_ONE, (BEGINNING, (2, "marked", 3), (2, "marked", 4)))
        self.check_part("form", FLAT, EMPTY, (BEGINNING, (2, "marked", 1)))

    def test_begin(self):
        for paper in ((), ONE_PAPER[1:], ((0, "free", 0),), ((4, "free", 0),)):
            self.check_part("begin", ONE, STRICT_ONE, paper)

    def test_step(self):
        self.check_part("step", ONE, STRICT_ONE, (BEGINNING,))
        self.check_part("step", ONE, STRICT_ONE, ((0, "free", 0),) + ONE_PAPER)
        self.check_part("step", ONE, STRICT_ONE, ((0, "marked", 1),) + ONE_PAPER[:1])

    def test_each_stand_of_the_least_one_is_needed(self):
        dice = random.Random(105)
        for _ in range(200):
            framing = random_framing(dice, "ab@", 6, 4, 2, ("@", "@a"))
            for reader in (strict(framing), random_reader(dice)):
                paper = least_paper(framing, reader)
                for stand in paper or ():
                    lesser = tuple(one for one in paper if one != stand)
                    self.check_part("begin" if stand == BEGINNING else "step", framing, reader, lesser)

    def test_end(self):
        # "b;" behind "@a" by a writer without a mark.
        reader = strict(HALF)
        found = {BEGINNING}
        while True:
            more = found | {stand for one in found for stand in leads_to(HALF, reader, one)[0]}
            if more == found:
                break
            found = more
        self.check_part("end", HALF, reader, tuple(sorted(found)))
        self.check_part("end", FLAT, strict(FLAT), ((0, "free", 0), BEGINNING))
        # Only the end is put, from a state that no rule has.
        framing = ((0, "@;", 0), (0, "@a", 1), (1, ";", 0))
        reader = (((0, "@", 1),), (1, 150))
        self.assertIs(check_safety(framing, reader, (BEGINNING,)), True)
        self.assertIs(check_safety(framing, reader, (BEGINNING, (149, "free", 0))), True)
        self.check_part("end", framing, reader, (BEGINNING, (150, "free", 0)))
        self.check_part("end", framing, reader, (BEGINNING, (150, "owned", 1)))
        self.check_part("end", framing, reader, (BEGINNING, (150, "plain", 1)))
        # The line of one writer alone may end there.
        whole = ((0, "@a", 1), (1, "@b;", 0), (1, "@c;", 0))
        self.assertIs(check_safety(whole, strict(whole), ONE_PAPER), True)

    def test_the_parts_in_order(self):
        reader = strict(HALF)
        for paper, part in (
            (((2, "owned", 1), (2, "free", 0)), "form"),
            (((2, "free", 0), (2, "marked", 1)), "begin"),
            ((BEGINNING, (2, "owned", 1)), "step"),
            ((BEGINNING, (2, "marked", 1)), "end"),
        ):
            self.check_part(part, HALF, reader, paper)

    def test_like_the_words(self):
        dice = random.Random(107)
        found = {}
        for _ in range(300):
            framing = random_framing(dice, "a@", 5, 3, 1, ("@", "@a"))
            reader = random_reader(dice, "a@", 3)
            listed = [stand for stand in stands_of(framing) if stand[0] < 3]
            for _ in range(20):
                paper = tuple(sorted(stand for stand in listed if dice.random() < dice.choice((0.3, 0.9, 1))))
                moves = [leads_to(framing, reader, stand) for stand in paper]
                part = None
                if BEGINNING not in paper:
                    part = "begin"
                elif any(stand not in paper for stands, passes in moves for stand in stands):
                    part = "step"
                elif any(passes for stands, passes in moves):
                    part = "end"
                found[part] = True
                if part is None:
                    self.assertIs(check_safety(framing, reader, paper), True)
                else:
                    self.check_part(part, framing, reader, paper)
        self.assertEqual(len(found), 4)


if __name__ == "__main__":
    unittest.main()
