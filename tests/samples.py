"""Framings and odd things that several tests use."""

ONE = ((0, "@a", 1), (1, "@b;", 0))
HALF = ((0, "@a", 1), (1, "b;", 0))
TWO = ((0, "a", 1), (0, "b", 1), (1, "x;", 0), (1, "y;", 0))
# 0 is its only standing.
FLAT = ((0, ";", 0), (0, "a;", 0))
# All standings; long and short ways lead to the same ones, and there are steps back and in place.
WIDE = (
    (0, "a", 1), (0, "b", 2), (0, "c", 2),
    (1, "a", 3), (1, "b", 4),
    (2, "@", 2), (2, "a", 3), (2, "a", 4),
    (3, "a", 1), (3, "b", 5), (3, "c", 5),
    (4, "b", 5), (4, "c;", 0),
    (5, "0;", 0), (5, "1;", 0), (5, "a", 4),
)
FRAMINGS = (ONE, HALF, TWO, FLAT, WIDE)

# Tuples that are no framings, each with the number that tells why.
BAD_FRAMINGS = (
    ((), None),
    (((0, "a", 1),), -1),
    (((0, "a;", 0), (0, "a;", 0)), 1),
    (((0, "a;", 0), (1, "a", 0)), 1),
)

# Nothing of these is a framing, a weaving, a standing, a line, an entry, a step or a piece.
ODD = (None, True, False, -1, 8, 10 ** 999, "", "a;;", "A", b"a", [], [0], {}, {0: 1}, {1}, 1.5, object(), len)

# Tuples that are no readers, each with the part and the number that tell why.
BAD_READERS = (
    ((), "form", None),
    (((), (), ()), "form", None),
    (((), [0]), "form", None),
    (((), (200,)), "good", 0),
    ((((0, "a", 200),), (0,)), "rules", 0),
    ((((0, "a", 0), (0, "a", 1)), (0, 0)), "rules", 1),
)
