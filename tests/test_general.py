"""Promise [1] and the words of the interface: names, arguments, kinds of values; nothing changes."""

import copy
import inspect
import unittest

from samples import BAD_FRAMINGS, HALF, ODD, ONE, TWO, WIDE
from tornlines import desk, errors, framings, live, marks, papers, passings, readers, scores, texts, turns, verdicts
from tornlines import weavings

ERRORS = (errors.BadFraming, errors.BadPaper, errors.BadReader, errors.BadText, errors.BadWeaving, errors.OutOfPlace,
          errors.TooGreat)
WEAVING = ((0, 0), (1, 0), (0, 1), (1, 1), (3, 0))
READER = (((0, "@", 1), (1, "a", 2), (2, "@", 3), (3, "b", 4)), (4,))
HALF_READER = (((0, "@", 1), (1, "a", 2), (2, "b", 3)), (3,))
PASSING = ((0, 1), ((0, 0), (1, 1)))
PAPER = ((0, "plain", 0), (2, "marked", 1))
SCORE = (((0, 1),), ((0, 1),))
SCORED = ((0, 0), (1, 0), (0, 1), (1, 1))
TURNED = ((0, 0), "turn", (0, 1))

# The functions of the interface, each with the names of its arguments.
FUNCTIONS = {
    framings: {
        "need_framing": ("thing",),
        "is_piece": ("thing",),
        "standings": ("framing",),
        "way_to": ("framing", "standing"),
        "line_from": ("framing", "standing"),
        "line_text": ("framing", "line"),
        "is_line": ("framing", "thing"),
    },
    weavings: {
        "need_weaving": ("framing", "thing"),
        "file_of": ("framing", "weaving"),
        "read_lines": ("framing", "weaving"),
        "rest_of": ("framing", "weaving"),
        "is_whole_line": ("framing", "entries"),
        "stands": ("framing", "weaving"),
    },
    readers: {
        "need_reader": ("thing",),
        "takes": ("reader", "text"),
        "strict": ("framing",),
        "first_taken": ("reader",),
        "parting": ("one", "other"),
        "alike": ("one", "other"),
    },
    passings: {
        "passing": ("framing", "reader", "writers"),
        "is_safe": ("framing", "reader", "writers"),
        "check_passing": ("framing", "reader", "writers", "paper"),
        "fewest_writers": ("framing", "reader"),
        "woven": ("framing", "paper"),
    },
    papers: {
        "safety": ("framing", "reader"),
        "check_safety": ("framing", "reader", "paper"),
    },
    marks: {
        "marked": ("framing", "steps"),
        "is_guard": ("framing", "steps", "writers"),
        "fewest_marks": ("framing", "writers"),
        "wary": ("framing",),
        "lost_text": ("framing",),
    },
    verdicts: {
        "possible": ("framing", "text", "writers"),
        "verdicts": ("framing", "text", "writers"),
        "explained": ("framing", "text", "writers"),
    },
    scores: {
        "need_score": ("framing", "thing"),
        "count": ("framing", "score"),
        "count_clean": ("framing", "score"),
        "weaving_at": ("framing", "score", "number"),
        "weaving_number": ("framing", "score", "weaving"),
        "is_clean": ("framing", "weaving"),
    },
    turns: {
        "need_turned": ("framing", "thing"),
        "files": ("framing", "thing", "manner"),
        "fates": ("framing", "thing", "manner"),
    },
    texts: {
        "framing_text": ("framing",),
        "read_framing": ("text",),
    },
}

# The functions and methods of the interface whose calls change something, each with the names of its arguments.
DEEDS = {
    live.under: ("manager", "deed"),
    live.held: ("shared", "writer", "line"),
    live.Shared.write: ("self", "writer", "step"),
    live.Shared.hold: ("self", "writer"),
    live.Shared.good: ("self",),
    live.Shared.passed: ("self",),
    live.Shared.back: ("self", "many"),
    live.Shared.copy: ("self",),
    desk.Desk.say: ("self", "line"),
}

# The arguments that may be left out, each with what is meant then.
DEFAULTS = {
    "passing": {"writers": None},
    "is_safe": {"writers": None},
    "is_guard": {"writers": None},
    "fewest_marks": {"writers": None},
}

# Calls with things that may be passed, each with what it returns.
CALLS = (
    (framings.need_framing, (ONE,), ONE),
    (framings.is_piece, ("@a",), True),
    (framings.is_piece, (["@a"],), False),
    (framings.standings, (ONE,), (0, 1)),
    (framings.way_to, (ONE, 1), (0,)),
    (framings.line_from, (ONE, 0), (0, 1)),
    (framings.line_text, (ONE, (0, 1)), "@a@b;"),
    (framings.is_line, (ONE, (0, 1)), True),
    (framings.is_line, (ONE, [0, 1]), False),
    (weavings.need_weaving, (ONE, WEAVING), WEAVING),
    (weavings.file_of, (ONE, WEAVING), "AaBaAb;Bb;Da"),
    (weavings.read_lines, (ONE, WEAVING), (WEAVING[:3], WEAVING[3:4])),
    (weavings.rest_of, (ONE, WEAVING), ((3, 0),)),
    (weavings.is_whole_line, (ONE, WEAVING[:3]), False),
    (weavings.is_whole_line, (ONE, ((2, 0), (2, 1))), True),
    (weavings.stands, (ONE, WEAVING), (0, 0, 0, 1, 0, 0, 0, 0)),
    (readers.need_reader, (READER,), READER),
    (readers.need_reader, (((), ()),), ((), ())),
    (readers.takes, (READER, "AaAb;"), True),
    (readers.takes, (READER, "AaBb;"), False),
    (readers.strict, (ONE,), READER),
    (readers.first_taken, (READER,), "@a@b;"),
    (readers.first_taken, (((), ()),), None),
    (readers.parting, (READER, HALF_READER), "@ab;"),
    (readers.parting, (READER, READER), None),
    (readers.alike, (ONE, HALF), False),
    (passings.passing, (HALF, HALF_READER, 2), PASSING),
    (passings.passing, (ONE, READER, None), None),
    (passings.is_safe, (HALF, HALF_READER, 2), False),
    (passings.is_safe, (HALF, HALF_READER, 1), True),
    (passings.check_passing, (HALF, HALF_READER, 2, PASSING), True),
    (passings.fewest_writers, (HALF, HALF_READER), 2),
    (passings.fewest_writers, (ONE, READER), None),
    (passings.woven, (HALF, ((0, 0), ((0, 0), (1, 0), (0, 1)))), ((0, 0), (1, 0), (0, 1))),
    (papers.safety, (ONE, READER), PAPER),
    (papers.check_safety, (ONE, READER, PAPER), True),
    (marks.marked, (HALF, (1,)), ONE),
    (marks.is_guard, (HALF, (1,), 5), True),
    (marks.is_guard, (HALF, (), None), False),
    (marks.fewest_marks, (HALF, None), (1,)),
    (marks.wary, (ONE,), READER),
    (marks.lost_text, (HALF,), "@ab;"),
    (verdicts.possible, (HALF, "Aab;", 2), True),
    (verdicts.verdicts, (HALF, "BaAab;Aab;b;", 2), ("mixed", "open", "mixed")),
    (verdicts.explained, (HALF, "Aab;", 2), ((0, 0), (0, 1))),
    (verdicts.explained, (HALF, "b;", 2), None),
    (scores.need_score, (ONE, SCORE), SCORE),
    (scores.count, (ONE, SCORE), 6),
    (scores.count_clean, (ONE, SCORE), 2),
    (scores.weaving_at, (ONE, SCORE, 1), SCORED),
    (scores.weaving_number, (ONE, SCORE, SCORED), 1),
    (scores.is_clean, (ONE, SCORED), False),
    (turns.need_turned, (HALF, TURNED), TURNED),
    (turns.files, (HALF, TURNED, "piece"), ("Aa", "b;")),
    (turns.files, (HALF, TURNED, "line"), ("Aab;", "")),
    (turns.fates, (HALF, TURNED, "piece"), ("torn",)),
    (turns.fates, (HALF, TURNED, "line"), ("kept",)),
    (texts.framing_text, (ONE,), "0 @a 1\n1 @b; 0"),
    (texts.read_framing, ("0 @a 1\n1 @b; 0",), ONE),
)

# Calls that are refused.
WRONG = (
    (framings.need_framing, ([(0, "a;", 0)],)),
    (framings.need_framing, (([0, "a;", 0],),)),
    (framings.standings, ([[0]],)),
    (framings.way_to, (ONE, [1])),
    (framings.line_from, (ONE, {"a": [1]})),
    (framings.line_text, (ONE, [0, 1])),
    (framings.line_text, (ONE, (0, [1]))),
    (weavings.need_weaving, (ONE, [(0, 0)])),
    (weavings.file_of, (ONE, ((0, 0), [0, 1]))),
    (weavings.read_lines, (ONE, ((0, 0), (0, [])))),
    (weavings.rest_of, (ONE, {})),
    (weavings.is_whole_line, (ONE, [(0, 0), (0, 1)])),
    (weavings.stands, (ONE, ((0, 0), ([], 1)))),
    (readers.need_reader, ([[], []],)),
    (readers.need_reader, ((([0, "a", 0],), ()),)),
    (readers.takes, (READER, ["a", ";"])),
    (readers.takes, ([], "a;")),
    (readers.strict, ([[0]],)),
    (readers.first_taken, (((), [0]),)),
    (readers.parting, (READER, {})),
    (readers.alike, (ONE, [[0]])),
    (passings.passing, (HALF, HALF_READER, [2])),
    (passings.is_safe, (HALF, [[], []], 2)),
    (passings.check_passing, (HALF, HALF_READER, 2, [[0, 1], [(0, 0), (1, 1)]])),
    (passings.check_passing, (HALF, HALF_READER, 2, (([0], 1), ((0, 0), (1, 1))))),
    (passings.check_passing, (HALF, HALF_READER, 2, ((0, 1), ((0, 0), [1, 1])))),
    (passings.fewest_writers, (HALF, [])),
    (passings.woven, (HALF, ((0, 1), [(0, 0), (1, 1)]))),
    (passings.woven, (HALF, (([], 1), ((0, 0), (1, 1))))),
    (papers.safety, (HALF, HALF_READER)),
    (papers.safety, (ONE, [[], []])),
    (papers.check_safety, (ONE, READER, list(PAPER))),
    (papers.check_safety, (ONE, READER, ([0, "plain", 0],))),
    (marks.marked, (HALF, [1])),
    (marks.is_guard, (HALF, ([1],))),
    (marks.is_guard, (HALF, (1,), [2])),
    (marks.fewest_marks, (HALF, {})),
    (marks.wary, ([list(step) for step in HALF],)),
    (marks.wary, (WIDE,)),
    (marks.lost_text, ([],)),
    (verdicts.possible, (HALF, ["A", "a"], 2)),
    (verdicts.verdicts, (HALF, "b;", 2)),
    (verdicts.explained, (HALF, "Aab;", [2])),
    (scores.need_score, (ONE, [[(0, 1)]])),
    (scores.count, (ONE, (([0, 1],),))),
    (scores.count_clean, (ONE, ([(0, 1)],))),
    (scores.weaving_at, (ONE, SCORE, [1])),
    (scores.weaving_number, (ONE, SCORE, [(0, 0)])),
    (scores.weaving_number, (ONE, SCORE, ((0, 0), [0, 1]))),
    (scores.is_clean, (ONE, [])),
    (turns.need_turned, (HALF, list(TURNED))),
    (turns.need_turned, (HALF, ([0, 0], "turn"))),
    (turns.files, (HALF, TURNED, ["line"])),
    (turns.files, (HALF, {}, "line")),
    (turns.fates, (HALF, TURNED, None)),
    (turns.fates, (HALF, ((0, 0), ["turn"]), "line")),
    (texts.framing_text, ([list(step) for step in HALF],)),
    (texts.read_framing, (["0 a; 0"],)),
    (texts.read_framing, ("0 a 1",)),
)


class InterfaceTest(unittest.TestCase):
    def test_names_and_arguments(self):
        for module, functions in FUNCTIONS.items():
            for name, arguments in functions.items():
                function = getattr(module, name)
                self.assertEqual(function.__module__, module.__name__)
                parameters = inspect.signature(function).parameters
                self.assertEqual(tuple(parameters), arguments, name)
                defaults = {key: told.default for key, told in parameters.items() if told.default is not told.empty}
                self.assertEqual(defaults, DEFAULTS.get(name, {}), name)

    def test_calls_stand_for_all_functions(self):
        called = {function.__name__ for function, given, told in CALLS}
        self.assertEqual(called, {name for functions in FUNCTIONS.values() for name in functions})

    def test_names_and_arguments_of_deeds(self):
        for function, arguments in DEEDS.items():
            self.assertEqual(tuple(inspect.signature(function).parameters), arguments, function)

    def test_no_framing_is_refused_ahead_of_all_else(self):
        for module, functions in FUNCTIONS.items():
            for name, arguments in functions.items():
                if arguments[0] == "framing" or name == "alike":
                    for thing, number in BAD_FRAMINGS + tuple((thing, None) for thing in ODD):
                        self.check_refused(getattr(module, name), thing, arguments, number)
        self.assertRaises(errors.BadFraming, readers.alike, ONE, TWO[:1])
        for thing, number in BAD_FRAMINGS:
            self.check_refused(live.Shared, thing, ("framing", "writers"), number)

    def check_refused(self, function, thing, arguments, number):
        for wrong in (None, 0, object()):
            with self.assertRaises(errors.BadFraming, msg=function) as caught:
                function(thing, *(wrong for argument in arguments[1:]))
            self.assertEqual(caught.exception.number, number)

    def test_by_position_and_by_name(self):
        for function, given, told in CALLS:
            named = dict(zip(inspect.signature(function).parameters, given))
            turned = dict(reversed(list(named.items())))
            for result in (function(*given), function(**named), function(**turned)):
                self.assertEqual(result, told, function.__name__)
                self.assertIs(type(result), type(told), function.__name__)


class NothingChangesTest(unittest.TestCase):
    def test_arguments_stay_and_equal_calls_return_the_same(self):
        for function, given, told in CALLS:
            before = copy.deepcopy(given)
            first = function(*given)
            self.assertEqual(given, before)
            self.assertEqual(function(*before), first)
            self.assertEqual(function(*given), first)

    def test_refused_calls_change_nothing(self):
        for function, given in WRONG:
            before = copy.deepcopy(given)
            told = []
            for _ in range(2):
                with self.assertRaises(ERRORS) as caught:
                    function(*given)
                told.append((type(caught.exception), vars(caught.exception)))
            self.assertEqual(given, before)
            self.assertEqual(told[0], told[1])
        for function, given, told in CALLS:
            self.assertEqual(function(*given), told)

    def test_one_framing_leaves_no_trace_in_another(self):
        before = [framings.line_from(ONE, 0), framings.way_to(WIDE, 5), weavings.file_of(ONE, WEAVING),
                  readers.strict(ONE), passings.passing(WIDE, readers.strict(WIDE))]
        for thing, number in BAD_FRAMINGS:
            with self.assertRaises(errors.BadFraming):
                framings.need_framing(thing)
        after = [framings.line_from(ONE, 0), framings.way_to(WIDE, 5), weavings.file_of(ONE, WEAVING),
                 readers.strict(ONE), passings.passing(WIDE, readers.strict(WIDE))]
        self.assertEqual(before, after)

    def test_a_changed_list_is_seen_anew(self):
        line = [0, 1]
        self.assertIs(framings.is_line(ONE, line), False)
        self.assertIs(framings.is_line(ONE, tuple(line)), True)
        line.append(0)
        self.assertIs(framings.is_line(ONE, tuple(line)), False)


if __name__ == "__main__":
    unittest.main()
