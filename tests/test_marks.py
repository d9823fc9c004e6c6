"""marks.py: promises [11] and [12]."""

import itertools
import random
import time
import unittest

from samples import BAD_FRAMINGS, FLAT, FRAMINGS, HALF, ODD, ONE, TWO, WIDE
from told import line_texts, mixed_texts, random_framing
from tornlines.errors import BadFraming, OutOfPlace, TooGreat
from tornlines.framings import need_framing, standings
from tornlines.marks import fewest_marks, is_guard, lost_text, marked, wary
from tornlines.passings import fewest_writers, is_safe
from tornlines.readers import need_reader, parting, strict, takes

NUMBERS = (1, 2, 3, 4, 5, None)
WRONG_NUMBERS = (0, 6, -1, 7, True, False, "2", "any", "", 2.0, (), (2,), [2], b"2", 10 ** 999, -10 ** 999, {})
ROW = ((0, "a", 1), (1, "b", 2), (2, "c;", 0))
# More marks are worse for it.
WORSE = ((0, "a", 1), (0, "b", 2), (1, "x;", 0), (2, "a", 1))
# Nine steps that are not marked, and two that are.
NINE = tuple((0, sign + ";", 0) for sign in "abcdefghi")
EIGHT = NINE[1:]
LONG = ((0, "@", 1), (0, "aaaaaaaa", 1), (1, "bbbbbbb;", 0))
# Two wheels of 15 and 16 signs turn at 1 and at 3: strict readers need more than 200 states for them.
WHEELS = ((0, "a@", 1), (0, "a@", 3), (1, "@;", 0), (1, "@@@@@@@@", 2), (2, "@@@@@@@", 1), (3, "@;", 0),
          (3, "@@@@@@@@", 4), (4, "@@@@@@@@", 3))
# Two wheels of 14 and 17 signs, of pieces that are not marked.
BARE_WHEELS = ((0, "@", 1), (0, "@", 3), (1, "@;", 0), (1, "aaaaaaa", 2), (2, "aaaaaaa", 1), (3, "@;", 0),
               (3, "aaaaaa", 4), (4, "aaaaaa", 5), (5, "aaaaa", 3))
# They turn sign by sign, too: readers need many states only if the steps 3 and 7, which do that, are both marked.
LOOSE_WHEELS = ((0, "@", 1), (0, "@", 3), (1, "@;", 0), (1, "a", 1), (1, "aaaaaaa", 2), (2, "aaaaaaa", 1),
                (3, "@;", 0), (3, "a", 3), (3, "aaaaaa", 4), (4, "aaaaaa", 5), (5, "aaaaa", 3))


def unmarked(framing):
    return tuple(number for number, step in enumerate(framing) if "@" not in step[1])


def all_marked(framing):
    return marked(framing, unmarked(framing))


def all_choices(framing):
    """All ascending tuples of numbers of steps that are not marked, smaller ones first, those of one size ascending."""
    numbers = unmarked(framing)
    return [steps for size in range(len(numbers) + 1) for steps in itertools.combinations(numbers, size)]


class MarkedTest(unittest.TestCase):
    def test_marks(self):
        self.assertEqual(marked(HALF, (1,)), ((0, "@a", 1), (1, "@b;", 0)))
        self.assertEqual(marked(TWO, (0, 2)), ((0, "@a", 1), (0, "b", 1), (1, "@x;", 0), (1, "y;", 0)))
        self.assertEqual(marked(((0, ";", 0),), (0,)), ((0, "@;", 0),))

    def test_nothing_to_mark(self):
        for framing in FRAMINGS:
            self.assertIs(marked(framing, ()), framing)

    def test_ordered_anew(self):
        # Of the signs "0" comes ahead of "@", and "@" ahead of "a".
        self.assertEqual(marked(((0, "0;", 0), (0, "a;", 0)), (1,)), ((0, "0;", 0), (0, "@a;", 0)))
        self.assertEqual(marked(((0, "0;", 0), (0, "9;", 0)), (0,)), ((0, "9;", 0), (0, "@0;", 0)))
        self.assertEqual(marked(((0, "a", 1), (0, "b", 1), (1, ";", 0)), (1,)),
                         ((0, "@b", 1), (0, "a", 1), (1, ";", 0)))

    def test_two_become_one(self):
        framing = ((0, "@a;", 0), (0, "a;", 0), (0, "b;", 0))
        self.assertEqual(marked(framing, (1,)), ((0, "@a;", 0), (0, "b;", 0)))
        self.assertEqual(marked(framing, (1, 2)), ((0, "@a;", 0), (0, "@b;", 0)))
        self.assertEqual(marked(framing, (2,)), ((0, "@a;", 0), (0, "@b;", 0), (0, "a;", 0)))
        # Pieces that are marked already, though not at their beginning, get no mark.
        self.assertRaises(OutOfPlace, marked, ((0, "a@;", 0), (0, "b;", 0)), (0,))

    def test_what_comes_is_a_framing(self):
        dice = random.Random(1)
        for _ in range(200):
            framing = random_framing(dice, steps=8, most=3)
            steps = tuple(number for number in unmarked(framing) if dice.random() < 0.5)
            further = marked(framing, steps)
            self.assertIs(need_framing(further), further)
            told = {(start, "@" * (number in steps) + piece, goal)
                    for number, (start, piece, goal) in enumerate(framing)}
            self.assertEqual(further, tuple(sorted(told)))

    def test_eight_signs(self):
        seven = ((0, "aaaaaaa", 1), (1, "bbbbbb;", 0))
        self.assertEqual(marked(seven, (0, 1)), ((0, "@aaaaaaa", 1), (1, "@bbbbbb;", 0)))
        for steps in ((1,), (2,), (1, 2)):
            self.assertRaises(OutOfPlace, marked, LONG, steps)
            self.assertRaises(OutOfPlace, is_guard, LONG, steps)
        self.assertIs(marked(LONG, ()), LONG)

    def test_wrong_steps(self):
        for function in (marked, is_guard):
            for steps in ([0], [], None, True, 0, "0", {0: 1}, {0}, (True,), (0, 0), (1, 0), (-1,), (4,), (0, 4),
                          (0, None), ("0",), ((0,),), ([0],), (10 ** 999,), (0.0,), (0, 1, 2, 3, 4)):
                self.assertRaises(OutOfPlace, function, TWO, steps)
            self.assertRaises(OutOfPlace, function, HALF, (0,))
            self.assertRaises(OutOfPlace, function, HALF, (0, 1))
            for thing in ODD:
                self.assertRaises(OutOfPlace, function, TWO, thing)
                self.assertRaises(OutOfPlace, function, TWO, (0, thing))

    def test_wrong_framings(self):
        for function, further in ((marked, (None,)), (is_guard, (None, 0)), (fewest_marks, (0,)), (wary, ()),
                                  (lost_text, ())):
            for thing, number in BAD_FRAMINGS:
                with self.assertRaises(BadFraming) as caught:
                    function(thing, *further)
                self.assertEqual(caught.exception.number, number)
            for thing in ODD:
                self.assertRaises(BadFraming, function, thing, *further)


class IsGuardTest(unittest.TestCase):
    def test_examples(self):
        for steps in all_choices(TWO):
            self.assertIs(is_guard(TWO, steps), steps == (0, 1, 2, 3))
        for steps in all_choices(ROW):
            self.assertIs(is_guard(ROW, steps), steps in ((0, 2), (0, 1, 2)))
        self.assertIs(is_guard(WORSE, (0, 1, 2)), True)
        self.assertIs(is_guard(WORSE, (0, 1, 2, 3)), False)
        self.assertIs(is_guard(HALF, (1,)), True)
        self.assertIs(is_guard(HALF, ()), False)
        self.assertIs(is_guard(ONE, ()), True)
        self.assertIs(is_guard(FLAT, ()), True)

    def test_numbers_of_writers(self):
        for framing in (HALF, TWO, ROW, WORSE):
            for steps in all_choices(framing):
                further = marked(framing, steps)
                for writers in NUMBERS:
                    told = is_safe(further, strict(further), writers)
                    self.assertIs(is_guard(framing, steps, writers), told)
                self.assertIs(is_guard(framing, steps, 1), True)
                self.assertIs(is_guard(framing, steps), is_guard(framing, steps, None))

    def test_as_many_writers_as_are_needed(self):
        # Each "a" needs a writer of its own: with fewer of them there is a passing only of fewer signs.
        framing = ((0, "x", 1), (1, "a", 2), (1, "b;", 0), (2, "c;", 0))
        told = {writers: [steps for steps in all_choices(framing) if is_guard(framing, steps, writers)]
                for writers in NUMBERS}
        for writers in NUMBERS[1:-1]:
            self.assertTrue(set(told[None]) <= set(told[writers]) <= set(told[writers - 1]))
        self.assertEqual(told[1], all_choices(framing))

    def test_all_marked(self):
        # The fact of [11]: a line is passed if a way from elsewhere has the text of a line; two writers are enough.
        dice = random.Random(2)
        found = {}
        for _ in range(300):
            framing = random_framing(dice, dice.choice(("a", "ab")), dice.randint(2, 6), 3, 2, ("", "a", "b"))
            further = all_marked(framing)
            reader = strict(further)
            passed = any(takes(reader, text) for standing in standings(further) if standing != 0
                         for text in line_texts(further, 9, standing))
            guard = is_guard(framing, unmarked(framing))
            if passed:
                self.assertIs(guard, False, framing)
            self.assertIs(is_guard(framing, unmarked(framing), 2), guard, framing)
            found[guard, passed] = True
            self.assertIn(fewest_writers(further, reader), (None, 2))
        self.assertIn((True, False), found)
        self.assertIn((False, True), found)

    def test_wrong_writers(self):
        for writers in WRONG_NUMBERS:
            self.assertRaises(OutOfPlace, is_guard, ONE, (), writers)
            self.assertRaises(OutOfPlace, is_guard, WHEELS, (), writers)
            self.assertRaises(OutOfPlace, fewest_marks, ONE, writers)
            self.assertRaises(OutOfPlace, fewest_marks, NINE, writers)

    def test_too_great(self):
        for writers in NUMBERS:
            with self.assertRaises(TooGreat) as caught:
                is_guard(WHEELS, (), writers)
            self.assertEqual(caught.exception.most, 200)
        self.assertRaises(OutOfPlace, is_guard, WHEELS, (0,))


class FewestMarksTest(unittest.TestCase):
    def test_examples(self):
        self.assertEqual(fewest_marks(TWO), (0, 1, 2, 3))
        self.assertEqual(fewest_marks(ROW), (0, 2))
        self.assertEqual(fewest_marks(WORSE), (0, 1, 2))
        self.assertEqual(fewest_marks(HALF), (1,))
        self.assertEqual(fewest_marks(ONE), ())
        self.assertEqual(fewest_marks(FLAT), ())
        self.assertEqual(fewest_marks(TWO, 1), ())

    def test_none(self):
        # A way from 1 has the text of a line whatever is marked.
        framing = ((0, "@a", 1), (1, "@;", 0), (1, "@a", 1))
        self.assertIsNone(fewest_marks(framing))
        self.assertIsNone(fewest_marks(framing, 2))
        self.assertEqual(fewest_marks(framing, 1), ())
        self.assertIsNone(fewest_marks(((0, "a", 1), (1, ";", 0), (1, "a", 1))))

    def test_the_first_of_the_smallest(self):
        dice = random.Random(3)
        sizes = {}
        for _ in range(150):
            framing = random_framing(dice, dice.choice(("ab", "ab@", "a")), 5, 3, 2, ("", "a", "b"))
            for writers in (None, 2, 3):
                told = [steps for steps in all_choices(framing) if is_guard(framing, steps, writers)]
                shown = fewest_marks(framing, writers)
                self.assertEqual(shown, told[0] if told else None, (framing, writers))
                sizes[None if shown is None else len(shown)] = True
        self.assertLessEqual({None, 0, 1, 2, 3}, set(sizes))

    def test_how_many_steps(self):
        self.assertEqual(fewest_marks(EIGHT), ())
        marked_too = tuple(sorted(EIGHT + ((0, "@;", 0), (0, "@a;", 0))))
        self.assertEqual(fewest_marks(marked_too), ())
        for framing in (NINE, tuple(sorted(NINE + LONG)), tuple(sorted(NINE + ((0, "aaaaaaa;", 0),)))):
            with self.assertRaises(TooGreat) as caught:
                fewest_marks(framing)
            self.assertEqual(caught.exception.most, 8)

    def test_eight_signs(self):
        for framing in (LONG, ((0, "aaaaaaa;", 0),), tuple(sorted(EIGHT[1:] + ((0, "aaaaaaa;", 0),)))):
            for writers in (1, None):
                self.assertRaises(OutOfPlace, fewest_marks, framing, writers)
        self.assertEqual(fewest_marks(((0, "@aaaaaa;", 0),)), ())
        self.assertEqual(fewest_marks(((0, "aaaaaa;", 0),)), ())

    def test_too_great(self):
        for writers in (1, 2, None):
            for framing in (WHEELS, BARE_WHEELS):
                with self.assertRaises(TooGreat) as caught:
                    fewest_marks(framing, writers)
                self.assertEqual(caught.exception.most, 200)

    def test_too_great_up_to_the_first_guard(self):
        self.assertIs(is_guard(LOOSE_WHEELS, (), 1), True)
        self.assertRaises(TooGreat, is_guard, LOOSE_WHEELS, (3, 7), 1)
        # No marks are needed for one writer, so those that would be too great are not looked at.
        self.assertEqual(fewest_marks(LOOSE_WHEELS, 1), ())
        for writers in (2, None):
            # For two there is no guard among the choices that are looked at ahead of these.
            for steps in itertools.takewhile(lambda steps: steps != (3, 7), all_choices(LOOSE_WHEELS)):
                self.assertIs(is_guard(LOOSE_WHEELS, steps, writers), False)
            self.assertRaises(TooGreat, fewest_marks, LOOSE_WHEELS, writers)


class WaryTest(unittest.TestCase):
    def test_examples(self):
        self.assertEqual(wary(ONE), strict(ONE))
        self.assertEqual(wary(HALF), ((), ()))
        self.assertEqual(wary(TWO), ((), ()))
        self.assertIsNone(lost_text(ONE))
        self.assertEqual(lost_text(HALF), "@ab;")
        self.assertEqual(lost_text(TWO), "ax;")

    def test_against_slow_search(self):
        dice = random.Random(4)
        kinds = {}
        for _ in range(250):
            framing = random_framing(dice, dice.choice(("ab@", "a@", "@", "@@a")), dice.randint(2, 7),
                                     dice.randint(1, 4), 3)
            size = 6
            lines, mixed = line_texts(framing, size), mixed_texts(framing, size)
            reader = wary(framing)
            self.assertIs(need_reader(reader), reader)
            signs = sorted({sign for start, piece, goal in framing for sign in piece if sign != ";"})
            texts = ("".join(text) + ";" for many in range(size) for text in itertools.product(signs, repeat=many))
            self.assertEqual({text for text in texts if takes(reader, text)}, lines - mixed, framing)
            lost = sorted(lines & mixed, key=lambda text: (len(text), text))
            if lost:
                self.assertEqual(lost_text(framing), lost[0], framing)
            else:
                self.assertTrue(lost_text(framing) is None or len(lost_text(framing)) > size)
            self.check_facts(framing)
            kinds[reader == strict(framing), reader == ((), ()), bool(lost)] = True
        self.assertLessEqual({(True, False, False), (False, True, True), (False, False, True)}, set(kinds))

    def check_facts(self, framing):
        reader, told = wary(framing), strict(framing)
        self.assertIs(is_safe(framing, reader), True)
        self.assertIs(reader == told, is_safe(framing, told))
        self.assertEqual(lost_text(framing), parting(told, reader))
        self.assertIs(lost_text(framing) is None, reader == told)
        self.check_told(reader)

    def check_told(self, reader):
        """From each state a good one is reached; states are numbered as come to; no two of them are alike."""
        rules, good = reader
        come = [0]
        for state in come:
            come += [goal for number, (start, sign, goal) in enumerate(rules) if start == state and goal not in come
                     and goal not in [further for ahead, sign, further in rules[:number] if ahead == state]]
        states = sorted({0, *[state for rule in rules for state in rule[::2]], *good})
        self.assertEqual(come if rules or good else [], states if rules or good else [])
        for one, other in itertools.combinations(states, 2):
            self.assertIsNotNone(parting(moved(reader, one), moved(reader, other)))
        for state in states if good else ():
            self.assertIsNotNone(parting(moved(reader, state), ((), ())))

    def test_without_marks(self):
        # Each line of two pieces and more may be mixed; so may one that ends elsewhere than it began.
        framing = ((0, "a", 1), (0, "ab;", 0), (0, "b;", 0), (0, "c;", 0), (1, "b;", 0), (1, "d;", 0))
        self.assertEqual(wary(framing), (((0, "c", 1),), (1,)))
        self.assertEqual(lost_text(framing), "b;")
        self.assertEqual(wary(FLAT), strict(FLAT))
        dice = random.Random(5)
        for _ in range(100):
            framing = random_framing(dice, "ab", dice.randint(2, 10), 4, 3, ("", "a", "b"))
            begun = {piece for start, piece, goal in framing if (start, goal) == (0, 0)}
            mixed = mixed_texts(framing, 5)
            for piece in ("a;", "b;", ";", "ab;", "aa;", "aaa;", "abba;"):
                self.assertIs(takes(wary(framing), piece), piece in begun and piece not in mixed)

    def test_all_marked(self):
        # Just those lines are not taken whose text leads from elsewhere to an end, too.
        dice = random.Random(6)
        for _ in range(100):
            framing = all_marked(random_framing(dice, "a", dice.randint(2, 6), 3, 2, ("", "a")))
            begun = line_texts(framing, 9, 0)
            elsewhere = {text for place in standings(framing) if place for text in line_texts(framing, 9, place)}
            reader = wary(framing)
            for text in begun | elsewhere:
                self.assertIs(takes(reader, text), text in begun - elsewhere, (framing, text))

    def test_many_steps(self):
        self.assertEqual(len(WIDE), 16)
        eleven = tuple((0, sign + ";", 0) for sign in "abcdefghijk")
        for function in (wary, lost_text):
            for framing in (WIDE, eleven):
                with self.assertRaises(TooGreat) as caught:
                    function(framing)
                self.assertEqual(caught.exception.most, 10)
        self.assertEqual(wary(eleven[:10]), strict(eleven[:10]))
        self.assertIsNone(lost_text(eleven[:10]))

    def test_too_great(self):
        for function in (wary, lost_text):
            with self.assertRaises(TooGreat) as caught:
                function(WHEELS)
            self.assertEqual(caught.exception.most, 200)

    def test_as_many_states_as_can_be(self):
        # Wheels of 18 and 11 signs: 198 states, and others for what ahead of the last "a" begins a line.
        for begin, many in (("aa@", 200), ("aaa@", 201)):
            framing = ((0, begin, 1), (0, begin, 4), (1, "@;", 0), (1, "@@@@@@@@", 2), (2, "@@@@@@@@", 3),
                       (3, "@@", 1), (4, "@;", 0), (4, "@@@@@@@@", 5), (5, "@@@", 4))
            if many == 200:
                reader = wary(framing)
                self.assertEqual(len({state for rule in reader[0] for state in rule[::2]}), 200)
                self.assertEqual(reader, strict(framing))
                self.assertIsNone(lost_text(framing))
                self.assertIs(is_guard(framing, ()), True)
            else:
                for function in (wary, lost_text, strict, fewest_marks):
                    self.assertRaises(TooGreat, function, framing)

    def test_very_many_states_are_told_soon(self):
        # Each "@b" is one of very many behind which there may be three pieces and more to the end.
        framing = ((0, "a@", 1), (1, "@a", 1), (1, "@b", 1), (1, "@b", 2), (2, "@a@a@a@", 3), (2, "@a@b@a@", 3),
                   (2, "@b@a@b@", 3), (3, "@a@a@a@;", 0), (3, "@b@b@a@", 4), (4, "@;", 0))
        begun = time.process_time()
        reader = wary(framing)
        self.assertLess(time.process_time() - begun, 20)
        self.assertIs(is_safe(framing, reader), True)

    def test_strict_may_be_greater(self):
        # Without marks nothing is taken, however many states the strict reader has.
        bare = tuple((start, piece.replace("@", "c"), goal) for start, piece, goal in WHEELS)
        bare = tuple(sorted(bare))
        self.assertRaises(TooGreat, strict, bare)
        self.assertEqual(wary(bare), ((), ()))
        self.assertEqual(lost_text(bare), "acc;")

    def test_ten_steps_are_answered_soon(self):
        # Each of these has very many sets of places that unlike texts lead to.
        for framing in (
            ((0, "a", 2), (1, "@@@@", 2), (2, "@@@@@@@@", 3), (2, "@@@a@", 2), (2, "@a@@@", 2), (3, "@@@@@", 1),
             (3, "@@@@@;", 0), (3, "@@@@@@@", 2), (3, "@@a@@", 1), (3, "@a@@", 3)),
            ((0, "@@@@@@@@", 2), (1, "@@@@", 1), (1, "@@@@@@@;", 0), (2, "@@@", 2), (2, "@aa@@", 3), (2, "a@", 3),
             (2, "a@@@@@", 3), (3, "@@@@@@@", 3), (3, "@@@aa@@@", 1), (3, "a", 2)),
            ((0, "aaaaaa", 4), (1, "aaaa", 4), (1, "aaaaaaa", 4), (2, "@", 1), (2, "aa", 4), (2, "aaaaaa", 4),
             (3, "@aaaaaa", 2), (3, "aaaaaaa", 2), (4, "aaaa", 3), (4, "aaaaaa;", 0)),
        ):
            begun = time.process_time()
            reader = wary(framing)
            lost = lost_text(framing)
            self.assertLess(time.process_time() - begun, 20)
            self.assertIs(is_safe(framing, reader), True)
            self.assertTrue(lost is None or not takes(reader, lost))


def moved(reader, state):
    """The reader that goes on from a state; its state 0 and this one are exchanged."""
    def turned(one):
        return {0: state, state: 0}.get(one, one)

    rules, good = reader
    return (tuple(sorted((turned(start), sign, turned(goal)) for start, sign, goal in rules)),
            tuple(sorted(turned(one) for one in good)))


if __name__ == "__main__":
    unittest.main()
