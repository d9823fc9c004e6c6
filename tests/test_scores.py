"""scores.py: promise [14]."""

import math
import random
import unittest

from samples import BAD_FRAMINGS, FLAT, FRAMINGS, HALF, ODD, ONE, TWO, WIDE
from told import random_framing
from tornlines.errors import BadFraming, BadWeaving, OutOfPlace
from tornlines.framings import line_from
from tornlines.scores import count, count_clean, is_clean, need_score, weaving_at, weaving_number
from tornlines.weavings import is_whole_line, need_weaving, read_lines

LINE = (0, 1)
# Two writers, the first one with two lines.
SCORE = ((LINE, LINE), (LINE,))
# Eight writers, 40 steps.
GREAT = (((0, 3), (0, 2)),) * 4 + (((1, 2), (1, 3), (0, 2)),) * 4


def slow_weavings(score):
    """All weavings of a score, ordered by the writers of their entries."""
    steps = [[step for line in lines for step in line] for lines in score]
    rows = [()]
    for _ in range(sum(map(len, steps))):
        rows = [row + (writer,) for row in rows for writer in range(len(steps))
                if row.count(writer) < len(steps[writer])]
    told = []
    for row in sorted(rows):
        told.append(tuple((writer, steps[writer][row[:at].count(writer)]) for at, writer in enumerate(row)))
    return told


def random_score(dice, framing, most):
    """Some score of a framing, of at most so many steps."""
    lines = [line_from(framing, 0)]
    for _ in range(30):
        line = ()
        standing = 0
        while len(line) < 5 and (not line or standing != 0):
            number = dice.choice([number for number, step in enumerate(framing) if step[0] == standing])
            line += (number,)
            standing = framing[number][2]
        if standing == 0:
            lines.append(line)
    score = [[] for _ in range(dice.randint(1, 4))]
    for _ in range(dice.randint(0, 6)):
        line = dice.choice(lines)
        if sum(len(line) for part in score for line in part) + len(line) <= most:
            dice.choice(score).append(line)
    return tuple(tuple(part) for part in score)


class NeedScoreTest(unittest.TestCase):
    def test_itself(self):
        for framing, score in ((ONE, SCORE), (HALF, SCORE), (TWO, GREAT), (FLAT, (((0,), (1,), (0,)),)),
                               (ONE, ((), (), (LINE,))), (ONE, ((LINE,) * 20,))):
            self.assertIs(need_score(framing, score), score)

    def test_no_lines(self):
        for score in (((),), ((), ()), ((),) * 8):
            self.assertIs(need_score(ONE, score), score)
            self.assertEqual(count(ONE, score), 1)
            self.assertEqual(count_clean(ONE, score), 1)
            self.assertEqual(weaving_at(ONE, score, 0), ())
            self.assertEqual(weaving_number(ONE, score, ()), 0)
            self.assertRaises(OutOfPlace, weaving_at, ONE, score, 1)
            self.assertRaises(OutOfPlace, weaving_number, ONE, score, ((0, 0),))

    def test_none(self):
        wrong = (
            (), ((),) * 9, ((LINE,),) * 9, [], [()], [(LINE,)], ([],), ([LINE],), ((LINE,), [LINE]), (([0, 1],),),
            (LINE,), ((0, 1),), (((0,),),), (((1,),),), (((0, 0),),), (((0, 1, 0, 1),),), (((),),), ((LINE, ()),),
            (((0, True),),), (((False, 1),),), (((0, 2),),), (((0, -1),),), (((0, None),),), ((LINE, None),),
            (None,), (True,), (0,), ("",), ({},), (((0, 1.0),),), ((LINE,) * 21,), ((LINE,) * 20, (LINE,)),
            ((LINE,) * 1000,),
        )
        for score in wrong + ODD:
            for function, further in ((need_score, ()), (count, ()), (count_clean, ()), (weaving_at, (0,)),
                                      (weaving_number, ((),))):
                self.assertRaises(OutOfPlace, function, ONE, score, *further)

    def test_41_steps(self):
        framing = ((0, "a", 1), (0, "b;", 0), (1, "c", 1), (1, "d;", 0))
        long = (0,) + (2,) * 38 + (3,)
        self.assertIs(need_score(framing, ((long,),))[0][0], long)
        self.assertEqual(len(long), 40)
        for score in (((long, (1,)),), ((long,), ((1,),)), (((0,) + (2,) * 39 + (3,),),), (((1,),) * 41,)):
            self.assertRaises(OutOfPlace, need_score, framing, score)
        self.assertEqual(count(framing, (((1,),) * 40,)), 1)
        self.assertEqual(count(framing, ((long,), (), ())), 1)


class CountTest(unittest.TestCase):
    def test_small(self):
        self.assertEqual(count(ONE, SCORE), 15)
        self.assertEqual(count_clean(ONE, SCORE), 3)
        self.assertEqual(weaving_at(ONE, SCORE, 0), ((0, 0), (0, 1), (0, 0), (0, 1), (1, 0), (1, 1)))
        self.assertEqual(weaving_at(ONE, SCORE, 1), ((0, 0), (0, 1), (0, 0), (1, 0), (0, 1), (1, 1)))
        self.assertEqual(weaving_at(ONE, SCORE, 14), ((1, 0), (1, 1), (0, 0), (0, 1), (0, 0), (0, 1)))

    def test_against_slow_search(self):
        dice = random.Random(8)
        clean_ones = {}
        for _ in range(80):
            framing = random_framing(dice, "ab@", 6, dice.randint(1, 4), 2)
            score = random_score(dice, framing, 8)
            told = slow_weavings(score)
            self.assertEqual(count(framing, score), len(told))
            clean = []
            for number, weaving in enumerate(told):
                self.assertEqual(weaving_at(framing, score, number), weaving)
                self.assertEqual(weaving_number(framing, score, weaving), number)
                whole = all(is_whole_line(framing, line) for line in read_lines(framing, weaving))
                self.assertIs(is_clean(framing, weaving), whole)
                clean += [weaving] * whole
            self.assertEqual(count_clean(framing, score), len(clean), (framing, score))
            clean_ones[len(clean) == len(told)] = True
        self.assertEqual(len(clean_ones), 2)

    def test_great(self):
        self.assertEqual(sum(len(line) for lines in GREAT for line in lines), 40)
        many = math.factorial(40) // math.factorial(4) ** 4 // math.factorial(6) ** 4
        self.assertEqual(count(TWO, GREAT), many)
        self.assertEqual(count_clean(TWO, GREAT), math.factorial(20) // 2 ** 4 // 6 ** 4)
        for number in (0, 1, 2, 10 ** 9, many // 3, many // 2, many - 10 ** 12, many - 2, many - 1):
            weaving = weaving_at(TWO, GREAT, number)
            self.assertIs(need_weaving(TWO, weaving), weaving)
            self.assertEqual(weaving_number(TWO, GREAT, weaving), number)
        writers = [writer for writer, step in weaving_at(TWO, GREAT, 0)]
        self.assertEqual(writers, sorted(writers))
        writers = [writer for writer, step in weaving_at(TWO, GREAT, many - 1)]
        self.assertEqual(writers, sorted(writers, reverse=True))
        first, last = weaving_at(TWO, GREAT, many // 2), weaving_at(TWO, GREAT, many // 2 + 1)
        self.assertLess([writer for writer, step in first], [writer for writer, step in last])
        self.assertRaises(OutOfPlace, weaving_at, TWO, GREAT, many)

    def test_silent_writers(self):
        score = ((), (LINE,), (), (LINE,), ())
        self.assertEqual(count(ONE, score), 6)
        self.assertEqual([weaving_at(ONE, score, number) for number in range(6)], slow_weavings(score))

    def test_no_such_number(self):
        for number in (-1, 15, 16, True, False, None, "0", 0.0, (0,), [0], 10 ** 999, -10 ** 999):
            self.assertRaises(OutOfPlace, weaving_at, ONE, SCORE, number)

    def test_no_weaving_of_the_score(self):
        weaving = weaving_at(ONE, SCORE, 5)
        for wrong in ((), weaving[:-1], weaving + ((2, 0),), weaving + ((0, 0),), weaving[:-2],
                      tuple((1 - writer, step) for writer, step in weaving),
                      tuple((writer + 1, step) for writer, step in weaving),
                      weaving + ((7, 0), (7, 1))):
            self.assertIs(need_weaving(ONE, wrong), wrong)
            self.assertRaises(OutOfPlace, weaving_number, ONE, SCORE, wrong)
        # The same lines in another order, and others of as many steps.
        self.assertRaises(OutOfPlace, weaving_number, TWO, (((0, 2), (1, 3)),), ((0, 1), (0, 3), (0, 0), (0, 2)))
        self.assertRaises(OutOfPlace, weaving_number, TWO, (((0, 2),),), ((0, 0), (0, 3)))

    def test_no_weaving_of_the_framing(self):
        for wrong, number in ((None, None), ([], None), (((0, 0),) * 201, None), (((0, 1),), 0),
                              (((0, 0), (0, 0)), 1), (((0, 0), (8, 0)), 1), (((0, 0), [0, 1]), 1),
                              (((0, 0), (True, 0)), 1)):
            for function, given in ((weaving_number, (ONE, SCORE, wrong)), (is_clean, (ONE, wrong))):
                with self.assertRaises(BadWeaving) as caught:
                    function(*given)
                self.assertEqual(caught.exception.number, number)
        self.assertRaises(OutOfPlace, weaving_number, ONE, (), None)

    def test_is_clean(self):
        for framing in FRAMINGS:
            self.assertIs(is_clean(framing, ()), True)
        self.assertIs(is_clean(ONE, ((0, 0), (0, 1), (1, 0), (1, 1))), True)
        self.assertIs(is_clean(ONE, ((0, 0), (1, 0), (0, 1), (1, 1))), False)
        # The rest does not count: neither what is cut nor what is mixed there.
        self.assertIs(is_clean(ONE, ((0, 0),)), True)
        self.assertIs(is_clean(ONE, ((0, 0), (0, 1), (0, 0), (1, 0))), True)
        self.assertIs(is_clean(ONE, ((0, 0), (1, 0))), True)
        # One writer has put all of the second line, but it did not begin there.
        self.assertIs(is_clean(HALF, ((0, 0), (1, 0), (1, 1), (0, 1))), False)
        self.assertIs(is_clean(WIDE, ((0, 0), (1, 0), (1, 4), (1, 12), (0, 4), (0, 12))), False)

    def test_wrong_framings(self):
        for function, further in ((need_score, (None,)), (count, (None,)), (count_clean, (None,)),
                                  (weaving_at, (None, None)), (weaving_number, (None, None)), (is_clean, (None,))):
            for thing, number in BAD_FRAMINGS:
                with self.assertRaises(BadFraming) as caught:
                    function(thing, *further)
                self.assertEqual(caught.exception.number, number)
            for thing in ODD:
                self.assertRaises(BadFraming, function, thing, *further)


if __name__ == "__main__":
    unittest.main()
