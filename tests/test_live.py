"""live.py: the class Shared, under and held."""

import inspect
import random
import unittest

from samples import BAD_FRAMINGS, BAD_READERS, FLAT, FRAMINGS, HALF, ODD, ONE, TWO, WIDE
from tornlines import live
from tornlines.errors import BadFraming, BadReader, Held, Nothing, OutOfPlace, TooGreat
from tornlines.live import Shared, held, under
from tornlines.passings import is_safe
from tornlines.readers import strict, takes
from tornlines.weavings import MARKS, file_of, is_whole_line, read_lines

HALF_READER = strict(HALF)
EMPTY = ((), ())
# It takes "@a@b;" alone.
OTHER_READER = strict(ONE)
WEAVING = ((1, 0), (0, 0), (0, 1), (0, 0), (1, 1), (1, 0))
# A strict reader of more than 200 states.
WHEELS = ((0, "a@", 1), (0, "a@", 3), (1, "@;", 0), (1, "@@@@@@@@", 2), (2, "@@@@@@@", 1), (3, "@;", 0),
          (3, "@@@@@@@@", 4), (4, "@@@@@@@@", 3))
WRONG_NUMBERS = (0, 9, -1, True, False, None, "2", 2.0, (2,), [2], {}, 10 ** 999, -10 ** 999)
WRONG_WRITERS = (2, -1, True, False, None, "0", 0.0, (0,), [0], {}, 8, 10 ** 999, -10 ** 999)


def written(framing, weaving, writers=2, **more):
    """A Shared with these entries."""
    shared = Shared(framing, writers, **more)
    for writer, step in weaving:
        shared.write(writer, step)
    return shared


class SharedTest(unittest.TestCase):
    def check_state(self, shared, weaving, holder=None):
        """All that can be asked of a Shared of HALF, before and behind a call that is refused."""
        self.assertEqual(shared.weaving, weaving)
        self.assertEqual(shared.text, file_of(HALF, weaving))
        lines = read_lines(HALF, weaving)
        self.assertEqual(len(shared), len(lines))
        self.assertEqual([shared[at] for at in range(len(lines))], [file_of_line(HALF, line) for line in lines])
        if holder is None:
            shared.back(many=1) if weaving else None
            if weaving:
                shared.write(*weaving[-1])
        else:
            with self.assertRaises(Held) as caught:
                shared.back() if weaving else shared.hold(0).__enter__()
            self.assertEqual(caught.exception.writer, holder)


def file_of_line(framing, line):
    return "".join(framing[step][1].replace("@", MARKS[writer]) for writer, step in line)


class MadeTest(SharedTest):
    def test_arguments(self):
        parameters = inspect.signature(Shared).parameters
        self.assertEqual(list(parameters), ["framing", "writers", "reader"])
        self.assertEqual(parameters["reader"].kind, inspect.Parameter.KEYWORD_ONLY)
        self.assertEqual((parameters["writers"].default, parameters["reader"].default), (2, None))
        with self.assertRaises(TypeError):
            Shared(HALF, 2, HALF_READER)
        shared = Shared(framing=HALF, writers=3, reader=EMPTY)
        self.assertEqual((shared.text, shared.weaving, len(shared)), ("", (), 0))
        self.assertEqual(Shared(HALF), Shared(reader=HALF_READER, writers=2, framing=HALF))

    def test_defined_here(self):
        for name in ("write", "hold", "good", "passed", "back", "copy", "text", "weaving", "__init__", "__len__",
                     "__getitem__", "__contains__", "__eq__"):
            self.assertIn(name, vars(Shared))
        for thing in (Shared, under, held):
            self.assertEqual(thing.__module__, live.__name__)

    def test_numbers_of_writers(self):
        for writers in range(1, 9):
            shared = Shared(FLAT, writers)
            for writer in range(8):
                if writer < writers:
                    self.assertEqual(shared.write(writer, 0), ";")
                else:
                    self.assertRaises(OutOfPlace, shared.write, writer, 0)
            self.assertEqual(len(shared), writers)
        self.assertRaises(OutOfPlace, Shared(FLAT).write, 2, 0)

    def test_wrong_arguments(self):
        for thing, number in BAD_FRAMINGS:
            with self.assertRaises(BadFraming) as caught:
                Shared(thing, 0, reader=0)
            self.assertEqual(caught.exception.number, number)
        for thing in ODD:
            self.assertRaises(BadFraming, Shared, thing)
        for writers in WRONG_NUMBERS:
            self.assertRaises(OutOfPlace, Shared, HALF, writers)
            with self.assertRaises(OutOfPlace):
                Shared(HALF, writers, reader=0)
        for thing, part, number in BAD_READERS:
            with self.assertRaises(BadReader) as caught:
                Shared(HALF, reader=thing)
            self.assertEqual((caught.exception.part, caught.exception.number), (part, number))
        for thing in ODD:
            if thing is not None:
                with self.assertRaises(BadReader):
                    Shared(HALF, reader=thing)

    def test_strict_reader(self):
        with self.assertRaises(TooGreat) as caught:
            Shared(WHEELS)
        self.assertEqual(caught.exception.most, 200)
        self.assertRaises(OutOfPlace, Shared, WHEELS, 0)
        shared = Shared(WHEELS, reader=EMPTY)
        self.assertEqual((shared.write(0, 0), shared.write(0, 2)), ("aA", "A;"))
        self.assertEqual(shared.good(), ())


class WriteTest(SharedTest):
    def test_what_it_puts(self):
        shared = Shared(WIDE, 8)
        self.assertEqual(shared.write(0, 1), "b")
        self.assertEqual(shared.write(step=5, writer=0), "A")
        self.assertEqual(shared.write(7, 1), "b")
        self.assertEqual(shared.write(7, 5), "H")
        self.assertEqual(shared.text, "bAbH")
        self.assertEqual(shared.weaving, ((0, 1), (0, 5), (7, 1), (7, 5)))

    def test_what_cannot_stand_there(self):
        shared = Shared(HALF)
        shared.write(0, 0)
        for writer in WRONG_WRITERS:
            self.assertRaises(OutOfPlace, shared.write, writer, 0)
        for step in (2, -1, True, False, None, "0", 0.0, (0,), [0], 10 ** 999):
            self.assertRaises(OutOfPlace, shared.write, 1, step)
        # From another standing.
        self.assertRaises(OutOfPlace, shared.write, 0, 0)
        self.assertRaises(OutOfPlace, shared.write, 1, 1)
        self.check_state(shared, ((0, 0),))

    def test_201st(self):
        shared = written(HALF, ((0, 0), (0, 1)) * 100)
        with self.assertRaises(TooGreat) as caught:
            shared.write(0, 0)
        self.assertEqual(caught.exception.most, 200)
        self.assertRaises(OutOfPlace, shared.write, 0, 1)
        self.assertRaises(OutOfPlace, shared.write, 2, 0)
        # Whoever holds it: it is too great ahead of that.
        with shared.hold(1) as put:
            self.assertRaises(TooGreat, shared.write, 0, 0)
            self.assertRaises(TooGreat, put, 0)
            self.assertRaises(OutOfPlace, shared.write, 0, 1)
        self.check_state(shared, ((0, 0), (0, 1)) * 100)
        shared.back()
        self.assertEqual(shared.write(0, 1), "b;")

    def test_while_it_is_held(self):
        shared = Shared(HALF)
        with shared.hold(0):
            self.assertEqual(shared.write(0, 0), "Aa")
            with self.assertRaises(Held) as caught:
                shared.write(1, 0)
            self.assertEqual(caught.exception.writer, 0)
            self.assertRaises(OutOfPlace, shared.write, 1, 1)
            self.assertRaises(OutOfPlace, shared.write, 2, 0)
            self.check_state(shared, ((0, 0),), 0)
        self.assertEqual(shared.write(1, 0), "Ba")


class AskedTest(SharedTest):
    def test_as_weavings_tell(self):
        dice = random.Random(11)
        for framing in FRAMINGS:
            for reader in (None, EMPTY, OTHER_READER):
                shared = Shared(framing, 3, reader=reader)
                told = strict(framing) if reader is None else reader
                weaving = ()
                for _ in range(60):
                    writer = dice.randrange(3)
                    place = ([0] + [framing[step][2] for other, step in weaving if other == writer])[-1]
                    step = dice.choice([number for number, step in enumerate(framing) if step[0] == place])
                    weaving += ((writer, step),)
                    shared.write(writer, step)
                    if dice.random() < 0.2:
                        many = dice.randint(1, len(weaving))
                        self.assertIsNone(shared.back(many=many))
                        weaving = weaving[:-many]
                    self.check_asked(shared, framing, told, weaving)

    def check_asked(self, shared, framing, reader, weaving):
        lines = read_lines(framing, weaving)
        texts = [file_of_line(framing, line) for line in lines]
        self.assertEqual(shared.text, file_of(framing, weaving))
        self.assertEqual(shared.weaving, weaving)
        self.assertEqual(len(shared), len(lines))
        for at, text in enumerate(texts):
            self.assertEqual(shared[at], text)
            self.assertEqual(shared[at - len(lines)], text)
            self.assertIs(text in shared, True)
        self.assertEqual(shared.good(), tuple(text for text in texts if takes(reader, text)))
        self.assertEqual(shared.passed(), tuple(number for number, line in enumerate(lines)
                                                if takes(reader, texts[number]) and not is_whole_line(framing, line)))

    def test_example(self):
        shared = written(HALF, WEAVING)
        self.assertEqual(shared.text, "BaAab;Aab;Ba")
        self.assertEqual((shared[0], shared[1], shared[-1], shared[-2]), ("BaAab;", "Aab;", "Aab;", "BaAab;"))
        self.assertEqual(shared.good(), ("Aab;",))
        self.assertEqual(shared.passed(), (1,))
        self.assertEqual(written(HALF, WEAVING, reader=EMPTY).good(), ())
        self.assertEqual(written(HALF, WEAVING, reader=EMPTY).passed(), ())
        self.assertEqual(written(HALF, ((0, 0), (0, 1), (0, 0), (0, 1))).good(), ("Aab;", "Aab;"))
        self.assertEqual(written(HALF, ((0, 0), (0, 1), (0, 0), (0, 1))).passed(), ())

    def test_no_such_line(self):
        shared = written(HALF, WEAVING)
        for at in (2, -3, 10 ** 999, -10 ** 999, True, False, None, "0", 0.0, (0,), [0], slice(0, 1), slice(None)):
            with self.assertRaises(OutOfPlace):
                shared[at]
        for at in (0, -1):
            with self.assertRaises(OutOfPlace):
                Shared(HALF)[at]

    def test_in(self):
        shared = written(HALF, WEAVING)
        for thing in ("Aab;", "BaAab;"):
            self.assertIs(thing in shared, True)
        for thing in ODD + ("", "Aab", "ab;", "Ba", "BaAab;Aab;", "Aab;Aab;", b"Aab;", ["Aab;"], ("Aab;",), 0):
            self.assertIs(thing in shared, False)

    def test_results_are_no_part_of_it(self):
        shared = written(HALF, WEAVING)
        before = (shared.text, shared.weaving, shared.good(), shared.passed())
        self.assertEqual(before, (shared.text, shared.weaving, shared.good(), shared.passed()))
        for thing in before[1:]:
            self.assertIsInstance(thing, tuple)
        shared.write(1, 1)
        self.assertEqual(before, ("BaAab;Aab;Ba", WEAVING, ("Aab;",), (1,)))
        for name in ("text", "weaving"):
            with self.assertRaises(AttributeError):
                setattr(shared, name, ())

    def test_it_is_not_gone_through(self):
        with self.assertRaises(TypeError):
            list(written(HALF, WEAVING))


class BackTest(SharedTest):
    def test_back(self):
        shared = written(HALF, WEAVING)
        self.assertIsNone(shared.back())
        self.check_state(shared, WEAVING[:-1])
        self.assertIsNone(shared.back(many=2))
        self.check_state(shared, WEAVING[:-3])
        self.assertEqual(shared.write(1, 1), "b;")
        self.assertIsNone(shared.back(many=4))
        self.check_state(shared, ())

    def test_by_name_alone(self):
        with self.assertRaises(TypeError):
            written(HALF, WEAVING).back(2)

    def test_wrong_numbers(self):
        shared = written(HALF, WEAVING)
        for many in (0, -1, True, False, None, "1", 1.0, (1,), [1], -10 ** 999):
            with self.assertRaises(OutOfPlace):
                shared.back(many=many)
        for many in (7, 201, 10 ** 999):
            with self.assertRaises(Nothing):
                shared.back(many=many)
        self.check_state(shared, WEAVING)
        self.assertRaises(Nothing, Shared(HALF).back)

    def test_while_it_is_held(self):
        shared = written(HALF, WEAVING)
        with shared.hold(1) as put:
            for many in (1, 6):
                with self.assertRaises(Held) as caught:
                    shared.back(many=many)
                self.assertEqual(caught.exception.writer, 1)
            with self.assertRaises(OutOfPlace):
                shared.back(many=0)
            with self.assertRaises(Nothing):
                shared.back(many=7)
            self.assertEqual(put(1), "b;")
        self.check_state(shared, WEAVING + ((1, 1),))


class CopyTest(SharedTest):
    def test_goes_on_by_itself(self):
        shared = written(HALF, WEAVING, 5, reader=EMPTY)
        twin = shared.copy()
        self.assertIs(type(twin), Shared)
        self.assertIsNot(twin, shared)
        self.assertEqual(twin, shared)
        self.assertEqual((twin.text, len(twin), twin[-1], twin.passed()), (shared.text, 2, "Aab;", ()))
        self.assertEqual(written(HALF, WEAVING).copy().passed(), (1,))
        twin.write(4, 0)
        self.assertEqual(shared.weaving, WEAVING)
        self.assertEqual(twin.weaving, WEAVING + ((4, 0),))
        shared.back(many=6)
        shared.write(3, 0)
        self.assertEqual(twin.weaving, WEAVING + ((4, 0),))
        self.assertEqual((len(twin), twin[1], twin.good()), (2, "Aab;", ()))
        self.assertEqual(shared.text, "Da")

    def test_held_by_nobody(self):
        shared = written(HALF, WEAVING)
        with shared.hold(1) as put:
            twin = shared.copy()
            self.assertEqual(twin, shared)
            self.assertEqual(twin.write(0, 1), "b;")
            twin.back()
            with twin.hold(0) as other:
                self.assertEqual((other(1), other(0), put(1)), ("b;", "Aa", "b;"))
                with self.assertRaises(Held) as caught:
                    twin.write(1, 1)
                self.assertEqual(caught.exception.writer, 0)
            with self.assertRaises(Held) as caught:
                shared.write(0, 1)
            self.assertEqual(caught.exception.writer, 1)
        self.assertEqual(shared.text, "BaAab;Aab;Bab;")
        self.assertEqual(twin.text, "BaAab;Aab;Bab;Aa")


class EqualTest(SharedTest):
    def test_equal(self):
        self.assertIs(Shared(HALF) == Shared(HALF), True)
        self.assertIs(Shared(HALF) != Shared(HALF), False)
        self.assertIs(Shared(HALF, reader=HALF_READER) == Shared(HALF, 2), True)
        self.assertIs(written(HALF, WEAVING) == written(HALF, WEAVING), True)
        shared = written(HALF, WEAVING + ((1, 1),))
        shared.back()
        self.assertIs(shared == written(HALF, WEAVING), True)
        with shared.hold(0):
            self.assertIs(shared == written(HALF, WEAVING), True)

    def test_unequal(self):
        shared = written(HALF, WEAVING)
        other_order = ((0, 0), (1, 0)) + WEAVING[2:]
        for other in (written(HALF, WEAVING, 3), written(HALF, WEAVING, reader=EMPTY), written(HALF, WEAVING[:-1]),
                      written(HALF, other_order), written(HALF[:1] + ((1, "c;", 0),), WEAVING, reader=HALF_READER),
                      Shared(HALF)):
            self.assertIs(shared == other, False)
            self.assertIs(shared != other, True)
        for thing in ODD + (WEAVING, shared.text, HALF, (HALF, 2, HALF_READER, WEAVING)):
            self.assertIs(shared == thing, False)
            self.assertIs(shared != thing, True)
            self.assertIs(thing == shared, False)


class HoldTest(SharedTest):
    def test_block(self):
        shared = Shared(HALF)
        with shared.hold(0) as put:
            self.assertEqual(put(0), "Aa")
            self.assertEqual(put(1), "b;")
            self.assertEqual(shared.text, "Aab;")
        self.assertEqual(shared.write(1, 0), "Ba")
        with shared.hold(writer=1) as put:
            self.assertEqual(put(1), "b;")
        self.check_state(shared, ((0, 0), (0, 1), (1, 0), (1, 1)))

    def test_nothing_is_held_ahead_of_the_block(self):
        shared = Shared(HALF)
        block, other = shared.hold(0), shared.hold(1)
        self.assertEqual(shared.write(1, 0), "Ba")
        with other as put:
            self.assertEqual(put(1), "b;")
        with block as put:
            self.assertEqual(put(0), "Aa")
        self.check_state(shared, ((1, 0), (1, 1), (0, 0)))

    def test_what_cannot_stand_there(self):
        shared = Shared(HALF)
        with shared.hold(0) as put:
            for step in (1, 2, -1, True, None, "0", (0,), [0]):
                self.assertRaises(OutOfPlace, put, step)
            self.assertEqual(put(0), "Aa")
            self.assertRaises(OutOfPlace, put, 0)

    def test_behind_the_block(self):
        shared = Shared(HALF)
        with shared.hold(0) as put:
            put(0)
        for step in (0, 1, None):
            self.assertRaises(OutOfPlace, put, step)
        # Also within another block of the same writer, and of another one.
        for writer in (0, 1):
            with shared.hold(writer) as other:
                self.assertRaises(OutOfPlace, put, 1)
        self.assertRaises(OutOfPlace, other, 0)
        self.check_state(shared, ((0, 0),))

    def test_another_block(self):
        shared = Shared(HALF)
        with shared.hold(1) as put:
            for writer in (0, 1):
                block = shared.hold(writer)
                with self.assertRaises(Held) as caught:
                    with block:
                        self.fail("the block begins")
                self.assertEqual(caught.exception.writer, 1)
            # What was refused has let nothing go.
            self.check_state(shared, (), 1)
            with self.assertRaises(Held):
                shared.write(0, 0)
            self.assertEqual(put(0), "Ba")
        self.assertEqual(shared.write(0, 0), "Aa")

    def test_an_error_goes_through(self):
        shared = Shared(HALF)
        for error in (KeyError("k"), Held(5), OutOfPlace("o")):
            with self.assertRaises(type(error)) as caught:
                with shared.hold(0) as put:
                    raise error
            self.assertIs(caught.exception, error)
            self.assertRaises(OutOfPlace, put, 0)
            with shared.hold(1):
                pass
        self.assertEqual(shared.write(1, 0), "Ba")
        with self.assertRaises(OutOfPlace):
            with shared.hold(0) as put:
                put(0)
                put(0)
        self.check_state(shared, ((1, 0), (0, 0)))

    def test_no_writer(self):
        shared = Shared(HALF)
        for writer in WRONG_WRITERS:
            self.assertRaises(OutOfPlace, shared.hold, writer)
        with shared.hold(0):
            self.assertRaises(OutOfPlace, shared.hold, 2)


class UnderTest(SharedTest):
    def test_what_the_deed_returns(self):
        shared = Shared(HALF)
        self.assertEqual(under(shared.hold(0), lambda put: (put(0), put(1))), ("Aa", "b;"))
        self.assertIsNone(under(manager=shared.hold(1), deed=lambda put: None))
        self.assertEqual(under(deed=len, manager=Manager([1, 2, 3])), 3)
        put = under(shared.hold(0), lambda one: one)
        self.assertRaises(OutOfPlace, put, 0)
        self.check_state(shared, ((0, 0), (0, 1)))

    def test_in_a_with_statement(self):
        manager = Manager("x")
        self.assertEqual(under(manager, lambda one: (one, list(manager.told))), ("x", ["enter"]))
        self.assertEqual(manager.told, ["enter", "exit"])

    def test_an_error_goes_through(self):
        shared = Shared(HALF)
        with self.assertRaises(ZeroDivisionError):
            under(shared.hold(0), lambda put: put(0) and 1 // 0)
        self.check_state(shared, ((0, 0),))
        with self.assertRaises(OutOfPlace):
            under(shared.hold(0), lambda put: put(0))
        with shared.hold(1):
            with self.assertRaises(Held) as caught:
                under(shared.hold(1), lambda put: self.fail("the block begins"))
            self.assertEqual(caught.exception.writer, 1)


class Manager:
    """Gives something, and tells what was called."""

    def __init__(self, thing):
        self.thing = thing
        self.told = []

    def __enter__(self):
        self.told.append("enter")
        return self.thing

    def __exit__(self, *told):
        self.told.append("exit")


class HeldTest(SharedTest):
    def test_lines(self):
        shared = Shared(HALF)
        self.assertEqual(held(shared, 1, (0, 1)), ("Ba", "b;"))
        shared.write(0, 0)
        self.assertEqual(held(line=(0, 1), writer=1, shared=shared), ("Ba", "b;"))
        self.check_state(shared, ((1, 0), (1, 1), (0, 0), (1, 0), (1, 1)))
        self.assertEqual(shared.write(0, 1), "b;")
        flat = Shared(FLAT)
        self.assertEqual(held(flat, 0, (1,)), ("a;",))
        self.assertEqual(len(flat), 1)

    def test_order_of_errors(self):
        shared = written(HALF, ((0, 0),))
        for writer in WRONG_WRITERS:
            self.assertRaises(OutOfPlace, held, shared, writer, (0, 1))
        for line in (None, [0, 1], (), (0,), (1,), (0, 1, 0, 1), (0, True), (1, 0), "01", (0, 2), (0, [1])):
            self.assertRaises(OutOfPlace, held, shared, 1, line)
        # Within a line of its own.
        self.assertRaises(OutOfPlace, held, shared, 0, (0, 1))
        with shared.hold(1):
            self.assertRaises(OutOfPlace, held, shared, 2, (0, 1))
            self.assertRaises(OutOfPlace, held, shared, 1, (1,))
            self.assertRaises(OutOfPlace, held, shared, 0, (0, 1))
            with self.assertRaises(Held) as caught:
                held(shared, 1, (0, 1))
            self.assertEqual(caught.exception.writer, 1)
        self.check_state(shared, ((0, 0),))

    def test_held_by_another_one(self):
        shared = Shared(HALF)
        with shared.hold(0) as put:
            with self.assertRaises(Held) as caught:
                held(shared, 1, (0, 1))
            self.assertEqual(caught.exception.writer, 0)
            self.assertEqual(put(0), "Aa")
        self.check_state(shared, ((0, 0),))

    def test_too_great(self):
        entries = ((0, 0), (0, 1)) * 99 + ((0, 0),)
        shared = written(HALF, entries)
        with shared.hold(0):
            with self.assertRaises(TooGreat) as caught:
                held(shared, 1, (0, 1))
            self.assertEqual(caught.exception.most, 200)
            self.assertRaises(OutOfPlace, held, shared, 0, (0, 1))
        self.assertRaises(TooGreat, held, shared, 1, (0, 1))
        self.check_state(shared, entries)
        shared.back()
        self.assertEqual(held(shared, 1, (0, 1)), ("Ba", "b;"))
        self.assertEqual(len(shared.weaving), 200)
        self.assertRaises(TooGreat, held, shared, 1, (0, 1))
        self.assertRaises(OutOfPlace, held, shared, 1, (0,))

    def test_no_file(self):
        for thing in ODD:
            self.assertRaises(OutOfPlace, held, thing, 0, (0, 1))


class SafeTest(SharedTest):
    def test_nothing_passes_where_it_is_safe(self):
        self.assertIs(is_safe(ONE, strict(ONE)), True)
        shared = written(ONE, ((0, 0), (1, 0), (0, 1), (1, 1), (1, 0), (1, 1)))
        self.assertEqual(shared.passed(), ())
        self.assertEqual(shared.good(), ("BaBb;",))
        self.assertEqual(written(TWO, ((0, 0), (1, 0), (1, 2), (0, 3))).passed(), ())
        self.assertEqual(written(TWO, ((0, 0), (0, 2), (1, 1), (1, 3))).passed(), ())
        self.assertEqual(written(((0, "a", 1), (1, "a;", 0)), ((0, 0), (1, 0), (0, 1), (1, 1))).passed(), ())
        self.assertEqual(written(((0, "a", 1), (1, ";", 0), (1, "a", 1)), ((0, 0), (1, 0), (0, 1), (1, 1))).passed(),
                         (0,))


if __name__ == "__main__":
    unittest.main()
