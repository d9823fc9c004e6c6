"""errors.py: all nine classes."""

import unittest

from tornlines import errors

FIELDS = {
    "BadFraming": (ValueError, ("number",)),
    "BadReader": (ValueError, ("part", "number")),
    "BadWeaving": (ValueError, ("number",)),
    "BadPaper": (ValueError, ("part",)),
    "BadText": (ValueError, ("line", "word")),
    "OutOfPlace": (ValueError, ("text",)),
    "TooGreat": (OverflowError, ("most",)),
    "Nothing": (LookupError, ("text",)),
    "Held": (RuntimeError, ("writer",)),
}


def deep_list():
    thing = []
    for _ in range(100000):
        thing = [thing]
    return thing


THINGS = (None, True, False, 0, -1, 10 ** 999, 10 ** 9999, 1.5, "", "some text", "100% {0}", b"x",
          (), (1, 2), [], [1, [2]], {}, {"a": [1]}, {1}, object(), ValueError, ValueError("x"), deep_list())


class ErrorsTest(unittest.TestCase):
    def each(self):
        for name, (base, fields) in FIELDS.items():
            yield name, getattr(errors, name), base, fields

    def test_straight_under_pythons_own(self):
        for name, made, base, fields in self.each():
            self.assertEqual(made.__bases__, (base,), name)
            self.assertEqual(made.__module__, "tornlines.errors", name)
            self.assertEqual(made.__name__, name)

    def test_none_is_a_subclass_of_another(self):
        for name, made, base, fields in self.each():
            for other_name, other, other_base, other_fields in self.each():
                self.assertEqual(issubclass(made, other), name == other_name, (name, other_name))

    def test_fields_by_position_and_by_name(self):
        for name, made, base, fields in self.each():
            for thing in THINGS:
                for other in (thing, "other", 7):
                    given = (thing, other)[:len(fields)]
                    for error in (made(*given), made(**dict(zip(fields, given)))):
                        self.check_fields(error, fields, given)

    def check_fields(self, error, fields, given):
        for field, worth in zip(fields, given):
            if field == "text":
                self.assertFalse(hasattr(error, "text"))
            else:
                self.assertIs(getattr(error, field), worth)
        self.assertIsInstance(str(error), str)

    def test_names_in_another_order(self):
        error = errors.BadReader(number=3, part="rules")
        self.assertEqual((error.part, error.number), ("rules", 3))
        error = errors.BadText(word=2, line=1)
        self.assertEqual((error.line, error.word), (1, 2))

    def test_fields_alone_are_set(self):
        for name, made, base, fields in self.each():
            error = made(*[1 for field in fields])
            self.assertEqual(sorted(vars(error)), sorted(set(fields) - {"text"}), name)

    def test_texts_are_messages(self):
        self.assertEqual(str(errors.OutOfPlace("not this")), "not this")
        self.assertEqual(str(errors.Nothing(text="nothing")), "nothing")

    def test_as_many_arguments_as_told(self):
        for name, made, base, fields in self.each():
            with self.assertRaises(TypeError):
                made()
            with self.assertRaises(TypeError):
                made(*range(len(fields) + 1))

    def test_raised_and_caught_by_the_base(self):
        for name, made, base, fields in self.each():
            with self.assertRaises(base) as caught:
                raise made(*[name for field in fields])
            self.assertIs(type(caught.exception), made)


if __name__ == "__main__":
    unittest.main()
