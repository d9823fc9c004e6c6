"""readers.py: promises [6] and [7]."""

import itertools
import random
import unittest

from samples import BAD_FRAMINGS, BAD_READERS, FLAT, FRAMINGS, HALF, ODD, ONE, TWO, WIDE
from told import (SIGNS, all_states, first_places, first_texts, is_text, many_unlike, random_framing, random_reader,
                  taken)
from tornlines.errors import BadFraming, BadReader, OutOfPlace, TooGreat
from tornlines.machines import spread
from tornlines.readers import alike, first_taken, need_reader, parting, strict, takes

STRICT_ONE = (((0, "@", 1), (1, "a", 2), (2, "@", 3), (3, "b", 4)), (4,))
EMPTY = ((), ())
# All rules that there can be: from each state to the next one.
FULL = (tuple((state, sign, (state + 1) % 200) for state in range(200) for sign in sorted(SIGNS)), tuple(range(200)))
READERS = (EMPTY, STRICT_ONE, FULL, ((), (0,)), ((), (0, 199)), (((7, "a", 7),), (3, 5)),
           (((0, "0", 199), (0, "@", 1), (0, "a", 0), (199, "z", 0)), ()))

# The strict reader of the first one has just 200 states, that of the second one has 201.
JUST_200 = (
    (0, "baaba", 1), (0, "bbb0aab;", 0), (1, "ab", 2), (1, "aca0ba", 5), (1, "b", 3), (1, "bbbb", 4), (2, "ab", 5),
    (3, "aba", 2), (3, "b", 4), (3, "bbbaba", 4), (4, "abaa;", 0), (4, "bab", 1), (4, "bbbbb", 1), (5, "babbb", 5),
    (5, "bb", 3),
)
JUST_201 = (
    (0, "babaaa", 5), (1, "aa", 3), (1, "aaaaaab", 4), (1, "aaba", 4), (1, "babab", 2), (2, "a", 5), (2, "aa;", 0),
    (2, "aba", 1), (3, "aa", 2), (3, "aaa", 1), (3, "ababaaa", 1), (3, "baaa", 1), (4, "aaabbba;", 0), (5, "aa", 5),
    (5, "aaab", 1), (5, "baba", 5),
)
# Its pieces can be at more than 30,000 sets of places, and its strict reader would have far more than 200 states.
VAST = (
    (0, "baaaaaab", 4), (1, "aaaaaaaa", 5), (1, "aaab", 1), (1, "ba", 3), (2, "aaa", 3), (2, "aaaa", 3),
    (2, "abaaaaa;", 0), (2, "ba", 2), (3, "aaaaaaa", 1), (3, "b", 3), (4, "aa", 4), (4, "aaaba", 4), (4, "baaa", 5),
    (5, "aaaaaaa", 2), (5, "aaaab", 5), (5, "baa", 4),
)


def told_wrong(thing):
    """The part and the number of the BadReader that need_reader raises, or "none" of a reader."""
    try:
        need_reader(thing)
    except BadReader as error:
        return error.part, error.number
    return "none"


def texts_of(signs, most):
    """All texts of these signs with `;` behind at most so many, the shorter and lesser ones first."""
    for size in range(most + 1):
        for row in itertools.product(sorted(signs), repeat=size):
            yield "".join(row) + ";"


class NeedReaderTest(unittest.TestCase):
    def test_itself(self):
        for reader in READERS:
            self.assertIs(need_reader(reader), reader)
        for framing in FRAMINGS:
            reader = strict(framing)
            self.assertIs(need_reader(reader), reader)

    def test_form(self):
        things = ODD + ((), ((),), ((), (), ()), [(), ()], ([], ()), ((), []), (None, ()), ((), None), ("", ""),
                        ({}, {}), (set(), ()), "ab", ((), "a"), (0, 0), STRICT_ONE[0], {(): ()})
        for thing in things:
            self.assertEqual(told_wrong(thing), ("form", None), thing)

    def test_form_is_told_ahead_of_rules_and_good(self):
        for thing in (((0,), []), ((0,), None), ((0,), (0, 0), ()), (None, (-1,))):
            self.assertEqual(told_wrong(thing), ("form", None), thing)

    def test_what_is_no_rule(self):
        wrong = ODD + ((), (0, "a"), (0, "a", 0, 0), [0, "a", 0], ("a", 0, 0), (0, 0, "a"), "0a0")
        wrong += tuple((state, "a", 0) for state in (-1, 200, True, False, None, "0", 0.0, 10 ** 999, [], (0,)))
        wrong += tuple((0, "a", state) for state in (-1, 200, True, False, None, "0", 0.0, 10 ** 999, [], (0,)))
        wrong += tuple((0, sign, 0) for sign in ("", "ab", "A", "H", ";", " ", "a;", "\n", "a\n", "!", "`", "{", "/",
                                                 ":", "?", "\u00e9", "\u0661", b"a", None, 0, True, ["a"], ("a",)))
        for rule in wrong:
            self.assertEqual(told_wrong(((rule,), ())), ("rules", 0), rule)
            self.assertEqual(told_wrong((((0, "0", 0), rule, (0, "0", 0)), (0,))), ("rules", 1), rule)
            self.assertEqual(told_wrong((((0, "0", 0), (0, "1", 0), rule), [0])), ("form", None), rule)

    def test_each_sign_and_state(self):
        for code in range(0, 300):
            told = told_wrong((((0, chr(code), 0),), ()))
            self.assertEqual(told, "none" if chr(code) in SIGNS else ("rules", 0), code)
        for state in range(-2, 203):
            fine = 0 <= state <= 199
            self.assertEqual(told_wrong((((state, "a", 0),), ())), "none" if fine else ("rules", 0), state)
            self.assertEqual(told_wrong((((0, "a", state),), ())), "none" if fine else ("rules", 0), state)
            self.assertEqual(told_wrong(((), (state,))), "none" if fine else ("good", 0), state)

    def test_rules_that_do_not_ascend(self):
        first = (5, "c", 5)
        for rule in ((4, "c", 5), (4, "z", 199), (5, "b", 5), (5, "b", 6), (5, "@", 5), (5, "0", 5), (5, "c", 4)):
            self.assertEqual(told_wrong(((first, rule), ())), ("rules", 1), rule)
            self.assertEqual(told_wrong((((0, "a", 0), first, rule, first), ())), ("rules", 2), rule)
        for rule in ((5, "d", 0), (6, "a", 0), (6, "0", 0)):
            self.assertEqual(told_wrong(((first, rule), ())), "none", rule)

    def test_rules_with_the_same_state_and_sign(self):
        for goal in (5, 6, 199):
            self.assertEqual(told_wrong((((5, "c", 5), (5, "c", goal)), ())), ("rules", 1))

    def test_good(self):
        for good, number in (((-1,), 0), ((True,), 0), ((0, True), 1), ((0, 200), 1), ((1, 0), 1), ((1, 1), 1),
                             ((0, 1, 1, -1), 2), (("0",), 0), ((None,), 0), ((0.0,), 0), (((),), 0), (([],), 0),
                             ((0, 1, "a"), 2), ((0, 10 ** 999), 1), ((0, 5, 4), 2)):
            self.assertEqual(told_wrong(((), good)), ("good", number), good)

    def test_rules_are_looked_at_ahead_of_good(self):
        self.assertEqual(told_wrong((((0, "a", 0), None), (None,))), ("rules", 1))
        self.assertEqual(told_wrong((((0, "a", 0),), (None,))), ("good", 0))

    def test_listed_ones(self):
        for thing, part, number in BAD_READERS:
            self.assertEqual(told_wrong(thing), (part, number), thing)


class TakesTest(unittest.TestCase):
    def test_example(self):
        for text, told in (("@a@b;", True), ("AaAb;", True), ("HaHb;", True), ("AaBb;", False), ("@aAb;", False),
                           ("Aa@b;", False), (";", False), ("AaAb@;", False), ("AaA;", False), ("ab;", False)):
            self.assertIs(takes(STRICT_ONE, text), told, text)

    def test_marks(self):
        # It takes each text that has an "a" somewhere.
        signs = "@ab"
        rules = tuple((0, sign, int(sign == "a")) for sign in signs) + tuple((1, sign, 1) for sign in signs)
        reader = (rules, (1,))
        for size in range(5):
            for row in itertools.product("@abABH", repeat=size):
                marks = {sign for sign in row if sign in "@ABH"}
                self.assertIs(takes(reader, "".join(row) + ";"), "a" in row and len(marks) <= 1, row)

    def test_each_mark(self):
        reader = (((0, "@", 1), (1, "@", 2)), (2,))
        for one in "@ABCDEFGH":
            for other in "@ABCDEFGH":
                self.assertIs(takes(reader, one + other + ";"), one == other)

    def test_the_end_alone(self):
        self.assertIs(takes(((), (0,)), ";"), True)
        self.assertIs(takes(((), (1,)), ";"), False)
        self.assertIs(takes(EMPTY, ";"), False)
        self.assertIs(takes(((), (0,)), "a;"), False)

    def test_signs_without_rules(self):
        reader = (((0, "a", 1), (2, "b", 2)), (0, 1, 2))
        for text, told in (("a;", True), ("b;", False), ("ab;", False), ("aa;", False), ("0;", False), ("A;", False)):
            self.assertIs(takes(reader, text), told, text)

    def test_like_the_rules_one_by_one(self):
        dice = random.Random(61)
        for _ in range(60):
            reader = random_reader(dice)
            for text in texts_of("ab@", 4):
                self.assertIs(takes(reader, text), taken(reader, text), (reader, text))
                self.assertIs(takes(reader, text.replace("@", "C")), taken(reader, text), (reader, text))

    def test_long_texts(self):
        self.assertIs(takes(FULL, "a@z9" * 499 + "a;"), True)
        self.assertIs(takes((FULL[0], (0, 198)), "a" * 1998 + ";"), True)
        self.assertIs(takes((FULL[0], (0, 197, 199)), "a" * 1998 + ";"), False)

    def test_wrong_texts(self):
        wrong = ODD + ("", "a", "ab", ";a", ";;", "a;;", "a;b;", "a;b", "A", "@", "I;", "Z;", "a b;", " ;", "; ", " a;",
                       "a\n;", "\n;", "a;\n", "\na;", "-;", "a.;", "[;", "`;", "{;", "/;", ":;", "?;", "\u00e9;",
                       "\u0661;", ("a", ";"), ["a", ";"], b"a;", b";", (";",), [";"], {";": 1})
        for text in wrong:
            for reader in (FULL, EMPTY):
                with self.assertRaises(OutOfPlace, msg=repr(text)):
                    takes(reader, text)

    def test_each_sign(self):
        for code in range(0, 400):
            for text in (chr(code) + ";", "a" + chr(code) + "a;"):
                if chr(code) in SIGNS + "ABCDEFGH":
                    self.assertIs(takes(FULL, text), True, text)
                else:
                    with self.assertRaises(OutOfPlace, msg=code):
                        takes(FULL, text)

    def test_wrong_readers(self):
        for thing, part, number in BAD_READERS:
            for text in (";", "a", None, []):
                with self.assertRaises(BadReader) as caught:
                    takes(thing, text)
                self.assertEqual((caught.exception.part, caught.exception.number), (part, number))


class StrictTest(unittest.TestCase):
    def check_strict(self, framing):
        reader = strict(framing)
        self.assertIs(need_reader(reader), reader)
        self.check_states(reader)
        rows, good = all_states(framing)
        # Of texts one behind the other, both lead to good states, to others, or nowhere.
        pairs = {(0, first_places(framing))}
        listed = list(pairs)
        rules = {(state, sign): goal for state, sign, goal in reader[0]}
        while listed:
            state, places = listed.pop()
            self.assertEqual(state in reader[1], good[places], framing)
            for sign in SIGNS:
                pair = (rules.get((state, sign)), rows[places].get(sign))
                self.assertEqual(pair[0] is None, pair[1] is None, framing)
                if pair[0] is not None and pair not in pairs:
                    pairs.add(pair)
                    listed.append(pair)
        self.assertEqual(many_unlike(rows, good), len(first_texts(reader)), framing)

    def check_states(self, reader):
        texts = first_texts(reader)
        named = {0} | {state for start, sign, goal in reader[0] for state in (start, goal)} | set(reader[1])
        self.assertEqual(list(texts), sorted(named))
        self.assertEqual(list(texts), list(range(len(texts))))
        self.assertEqual(list(texts.values()), sorted(texts.values(), key=lambda text: (len(text), text)))
        ends = set(reader[1])
        for _ in texts:
            ends |= {start for start, sign, goal in reader[0] if goal in ends}
        self.assertEqual(ends, named)

    def test_examples(self):
        self.assertEqual(strict(ONE), STRICT_ONE)
        self.assertEqual(strict(HALF), (((0, "@", 1), (1, "a", 2), (2, "b", 3)), (3,)))
        self.assertEqual(strict(TWO), (((0, "a", 1), (0, "b", 1), (1, "x", 2), (1, "y", 2)), (2,)))

    def test_the_end_alone(self):
        self.assertEqual(strict(((0, ";", 0),)), ((), (0,)))
        self.assertEqual(strict(FLAT), (((0, "a", 1),), (0, 1)))
        self.assertEqual(strict(((0, ";", 0), (0, "a", 1), (1, ";", 0), (1, "a", 1))), (((0, "a", 0),), (0,)))

    def test_loops(self):
        self.assertEqual(strict(((0, "a", 1), (1, "a", 1), (1, "b;", 0))),
                         (((0, "a", 1), (1, "a", 1), (1, "b", 2)), (2,)))
        self.assertEqual(strict(((0, "a", 1), (1, "b", 2), (2, "a", 1), (2, "c;", 0))),
                         (((0, "a", 1), (1, "b", 2), (2, "a", 1), (2, "c", 3)), (3,)))

    def test_several_ways_to_one_text(self):
        told = (((0, "a", 1), (1, "b", 2), (2, "c", 3)), (3,))
        for framing in (
            ((0, "abc;", 0),),
            ((0, "a", 1), (0, "ab", 2), (1, "b", 2), (1, "bc;", 0), (2, "c;", 0)),
            ((0, "a", 1), (0, "a", 2), (0, "abc;", 0), (1, "bc;", 0), (2, "bc;", 0)),
            ((0, "a", 1), (0, "ab", 3), (1, "b", 2), (2, "c", 4), (3, "c;", 0), (4, ";", 0)),
        ):
            self.assertEqual(strict(framing), told, framing)

    def test_numbers_go_by_the_first_texts(self):
        # "0" is less than "@", and this is less than "a"; steps stand in another order, and a longer text comes later.
        framing = ((0, "@", 2), (0, "a", 1), (0, "0a", 3), (1, "1;", 0), (2, "2;", 0), (3, "3;", 0))
        self.assertEqual(strict(tuple(sorted(framing))), (
            ((0, "0", 1), (0, "@", 2), (0, "a", 3), (1, "a", 4), (2, "2", 5), (3, "1", 5), (4, "3", 5)), (5,)))

    def test_framings(self):
        for framing in FRAMINGS:
            self.check_strict(framing)

    def test_many_framings(self):
        dice = random.Random(71)
        for _ in range(400):
            self.check_strict(random_framing(dice, dice.choice(("ab@", "ab", "a", "0@a")), dice.randint(1, 9),
                                             dice.randint(1, 6), dice.randint(1, 4)))

    def test_it_takes_the_texts_of_lines(self):
        dice = random.Random(72)
        for _ in range(60):
            framing = random_framing(dice)
            reader = strict(framing)
            for text in texts_of("ab@", 5):
                self.assertIs(takes(reader, text), is_text(framing, text), (framing, text))

    def test_just_200_states(self):
        self.check_strict(JUST_200)
        self.assertEqual(len(first_texts(strict(JUST_200))), 200)

    def test_more_than_200_states(self):
        rows, good = all_states(JUST_201)
        self.assertEqual(many_unlike(rows, good), 201)
        for framing in (JUST_201, VAST):
            with self.assertRaises(TooGreat) as caught:
                strict(framing)
            self.assertEqual(caught.exception.most, 200)

    def test_many_sets_of_places_but_few_states(self):
        # It takes all texts of "a" and "b", one sign at least, by however many ways.
        framing = ((0, "a", 1), (0, "b", 1), (1, ";", 0), (1, "a", 1), (1, "a", 2), (1, "abab", 3), (1, "b", 1),
                   (2, "aab", 3), (2, "ba", 2), (2, "bbbabab", 4), (3, "a", 4), (3, "babba", 5), (4, "b", 2),
                   (4, "ba", 5), (5, "a", 1), (5, "bb;", 0))
        self.assertGreater(len(all_states(framing)[0]), 20)
        self.check_strict(framing)
        self.assertEqual(strict(framing), (((0, "a", 1), (0, "b", 1), (1, "a", 1), (1, "b", 1)), (1,)))

    def test_not_all_sets_of_places_are_listed(self):
        for framing in (VAST, JUST_201):
            with self.assertRaises(TooGreat) as caught:
                spread(framing)
            self.assertEqual(caught.exception.most, 200)
        rows, good = spread(JUST_200)
        self.assertEqual(len(rows), len(good))

    def test_wrong_framings(self):
        for thing, number in BAD_FRAMINGS:
            with self.assertRaises(BadFraming) as caught:
                strict(thing)
            self.assertEqual(caught.exception.number, number)
        for thing in ODD:
            with self.assertRaises(BadFraming):
                strict(thing)


class FirstTextsTest(unittest.TestCase):
    def test_first_taken(self):
        for reader, told in (
            (EMPTY, None),
            (((), (0,)), ";"),
            (((), (1,)), None),
            ((((0, "a", 1),), ()), None),
            ((((0, "a", 1),), (2,)), None),
            ((((0, "a", 1), (0, "b", 1)), (1,)), "a;"),
            ((((0, "@", 2), (0, "a", 1)), (1, 2)), "@;"),
            ((((0, "9", 2), (0, "@", 1)), (1, 2)), "9;"),
            ((((0, "a", 1), (0, "b", 2), (1, "a", 2)), (2,)), "b;"),
            ((((0, "b", 1), (0, "c", 2), (1, "c", 3), (2, "a", 3)), (3,)), "bc;"),
            (STRICT_ONE, "@a@b;"),
        ):
            self.assertEqual(first_taken(reader), told, reader)

    def test_first_taken_of_all_texts(self):
        dice = random.Random(67)
        for _ in range(200):
            reader = random_reader(dice, dice.choice(("ab", "9@")), 5)
            told = [text for text in texts_of("ab9@", 4) if taken(reader, text)]
            self.assertEqual(first_taken(reader), told[0] if told else None, reader)

    def test_long_ones(self):
        reader = (FULL[0], (199,))
        self.assertEqual(first_taken(reader), "0" * 199 + ";")
        rules = tuple((state, "a", state + 1) for state in range(199))
        self.assertEqual(first_taken((rules, (199,))), "a" * 199 + ";")

    def test_parting(self):
        for one, other, told in (
            (EMPTY, EMPTY, None),
            (EMPTY, ((), (0,)), ";"),
            (EMPTY, ((), (1,)), None),
            (((), (0,)), (((0, "a", 0),), (0,)), "a;"),
            ((((0, "a", 0),), (0,)), (((0, "a", 1), (1, "a", 0)), (0, 1)), None),
            ((((0, "a", 0),), (0,)), (((0, "a", 1), (1, "a", 2), (2, "a", 2)), (0, 1)), "aa;"),
            ((((0, "b", 1),), (1,)), (((0, "a", 1),), (1,)), "a;"),
            ((((0, "0", 1), (0, "@", 1)), (1,)), (((0, "0", 1), (0, "a", 1)), (1,)), "@;"),
            (STRICT_ONE, strict(HALF), "@ab;"),
            (STRICT_ONE, STRICT_ONE, None),
            (FULL, FULL, None),
            (FULL, (FULL[0], tuple(range(199))), "0" * 199 + ";"),
        ):
            self.assertEqual(parting(one, other), told, (one, other))
            self.assertEqual(parting(other, one), told, (other, one))

    def test_long_partings(self):
        # Loops of 199 and 200 states that take all but the last ones of one, or both.
        signs = {many: tuple((state, "a", (state + 1) % many) for state in range(many)) for many in (197, 199, 200)}
        one, other = (signs[199], (198,)), (signs[200], (199,))
        self.assertEqual(parting(one, other), "a" * 198 + ";")
        one, other = (signs[199], tuple(range(198))), (signs[200], tuple(range(200)))
        self.assertEqual(parting(one, other), "a" * 198 + ";")
        self.assertIsNone(parting((signs[199], tuple(range(199))), (signs[200], tuple(range(200)))))

    def test_parting_of_all_texts(self):
        dice = random.Random(68)
        found = {}
        for _ in range(300):
            one, other = random_reader(dice, "ab", 3), random_reader(dice, "ab", 3)
            told = [text for text in texts_of("ab", 6) if taken(one, text) != taken(other, text)]
            self.assertEqual(parting(one, other), told[0] if told else None, (one, other))
            self.assertEqual(parting(other, one), told[0] if told else None, (one, other))
            found[bool(told)] = True
        self.assertEqual(len(found), 2)

    def test_wrong_readers(self):
        for thing, part, number in BAD_READERS:
            for function, given in ((first_taken, (thing,)), (parting, (thing, None)), (parting, (EMPTY, thing)),
                                    (parting, (thing, EMPTY))):
                with self.assertRaises(BadReader) as caught:
                    function(*given)
                self.assertEqual((caught.exception.part, caught.exception.number), (part, number))
        with self.assertRaises(BadReader) as caught:
            parting(((), (200,)), ())
        self.assertEqual(caught.exception.part, "good")
        for thing in ODD:
            self.assertRaises(BadReader, first_taken, thing)
            self.assertRaises(BadReader, parting, EMPTY, thing)


class AlikeTest(unittest.TestCase):
    def check_alike(self, one, other, told):
        self.assertIs(alike(one, other), told, (one, other))
        self.assertIs(alike(other, one), told, (other, one))

    def test_a_piece_parted_in_two(self):
        self.check_alike(((0, "ab;", 0),), ((0, "a", 1), (1, "b;", 0)), True)
        self.check_alike(ONE, ((0, "@a@", 3), (3, "b;", 0)), True)
        self.check_alike(ONE, ((0, "@a@b;", 0),), True)
        self.check_alike(ONE, ((0, "@a@b", 2), (2, ";", 0)), True)

    def test_standings_exchanged(self):
        one = ((0, "a", 1), (0, "b", 2), (1, "x;", 0), (2, "y;", 0))
        self.check_alike(one, ((0, "a", 2), (0, "b", 1), (1, "y;", 0), (2, "x;", 0)), True)
        self.check_alike(one, ((0, "a", 2), (0, "b", 1), (1, "x;", 0), (2, "y;", 0)), False)
        self.check_alike(one, ((0, "a", 4), (0, "b", 5), (4, "x;", 0), (5, "y;", 0)), True)

    def test_a_line_more(self):
        self.check_alike(TWO, tuple(sorted(TWO + ((0, "ax;", 0),))), True)
        self.check_alike(TWO, tuple(sorted(TWO + ((0, "az;", 0),))), False)
        self.check_alike(TWO, tuple(sorted(TWO + ((0, ";", 0),))), False)
        self.check_alike(TWO, TWO[1:], False)
        self.check_alike(HALF, ONE, False)
        self.check_alike(WIDE, WIDE, True)

    def test_loops(self):
        one = ((0, "a", 1), (1, ";", 0), (1, "a", 1))
        self.check_alike(one, ((0, "a", 1), (0, "aa", 1), (1, ";", 0), (1, "a", 2), (2, ";", 0), (2, "a", 1)), True)
        self.check_alike(one, ((0, "a", 1), (1, ";", 0), (1, "aa", 1)), False)

    def test_like_all_texts(self):
        dice = random.Random(73)
        found = {}
        for _ in range(200):
            one, other = (random_framing(dice, "a@", 5, 3, 2, ("", "a")) for _ in range(2))
            told = [text for text in texts_of("a@", 7) if is_text(one, text) != is_text(other, text)]
            self.check_alike(one, other, not told)
            found[bool(told)] = True
        self.assertEqual(len(found), 2)

    def test_too_great(self):
        for one, other in ((JUST_201, ONE), (ONE, JUST_201), (JUST_201, JUST_201), (JUST_200, VAST)):
            with self.assertRaises(TooGreat) as caught:
                alike(one, other)
            self.assertEqual(caught.exception.most, 200)
        self.check_alike(JUST_200, JUST_200, True)
        self.check_alike(JUST_200, ONE, False)

    def test_wrong_framings(self):
        for thing, number in BAD_FRAMINGS:
            for one, other in ((thing, None), (thing, ONE), (ONE, thing), (JUST_201, thing)):
                with self.assertRaises(BadFraming) as caught:
                    alike(one, other)
                self.assertEqual(caught.exception.number, number)
        for thing in ODD:
            self.assertRaises(BadFraming, alike, thing, ONE)
            self.assertRaises(BadFraming, alike, ONE, thing)


if __name__ == "__main__":
    unittest.main()
