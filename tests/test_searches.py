"""machines.py and searches.py: what keeps the answers of [7] to [9] within bounds."""

import unittest

from tornlines.errors import TooGreat
from tornlines.machines import merged, spread, told_reader
from tornlines.moves import BEGINNING
from tornlines.readers import need_reader
from tornlines.searches import is_matched, parts_of


def row_machine(many):
    """A machine of so many unlike states, one behind the other; the last one alone is good."""
    rows = [(("a", state + 1),) for state in range(many - 1)] + [()]
    return rows, [False] * (many - 1) + [True]


class MergedTest(unittest.TestCase):
    def test_as_many_states_as_can_be(self):
        rows, good = row_machine(200)
        self.assertEqual(len(set(merged(rows, good))), 200)
        reader = told_reader(rows, good)
        self.assertIs(need_reader(reader), reader)
        self.assertEqual(reader, (tuple((state, "a", state + 1) for state in range(199)), (199,)))

    def test_more_states_than_can_be(self):
        for many in (201, 300):
            for function in (merged, told_reader):
                with self.assertRaises(TooGreat) as caught:
                    function(*row_machine(many))
                self.assertEqual(caught.exception.most, 200)

    def test_many_states_that_are_alike(self):
        many = 1000
        rows = [(("a", (state + 1) % many),) for state in range(many)]
        self.assertEqual(told_reader(rows, [state % 10 == 0 for state in range(many)]),
                         (tuple((state, "a", (state + 1) % 10) for state in range(10)), (0,)))

    def test_spread(self):
        rows, good = spread(((0, "a", 1), (1, "b", 1), (1, "bc;", 0)))
        self.assertEqual(rows, [(("a", 1),), (("b", 2),), (("b", 2), ("c", 3)), ()])
        self.assertEqual(good, [False, False, False, True])


class MatchedTest(unittest.TestCase):
    def test_parts(self):
        self.assertEqual(parts_of(()), [()])
        self.assertEqual(sorted(parts_of((1, 1, 2))), [(), (1,), (1, 1), (1, 1, 2), (1, 2), (2,)])

    def test_less_matches_more(self):
        stand = (3, "free", 0)
        found = {(BEGINNING, (), False): None, (stand, (1, 2), True): None, ((4, "free", 0), (1,), False): None}
        for place, told in (
            ((stand, (1, 2), True), True),
            ((stand, (1, 2), False), True),
            ((stand, (1, 2, 2), True), True),
            ((stand, (1, 1, 2, 3), False), True),
            ((stand, (1,), True), False),
            ((stand, (1, 1), True), False),
            ((stand, (2, 3), False), False),
            (((3, "owned", 1), (1, 2), True), False),
            (((4, "free", 0), (1, 2), False), True),
            (((4, "free", 0), (1,), True), False),
            (((4, "free", 0), (1, 2), True), False),
        ):
            self.assertIs(is_matched(found, place), told, place)


if __name__ == "__main__":
    unittest.main()
