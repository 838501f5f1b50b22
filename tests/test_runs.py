import unittest

from piledoors.errors import InvalidModule, InvalidNumber, InvalidStack, UnknownEntry, UnknownState
from piledoors.runs import runs
from piledoors.runs.runs import is_trace, step, trace
from tests.samples import AB, C, D, G, ODD, SAMPLES, check_errors, make_random_modules, stacks, walk

MODULES = (0, ODD, InvalidModule, None)
ENTRIES = (1, ODD + ("out", 0, ("in",)), UnknownEntry, "name")
STACKS = (2, ODD + ("a", ["a", "b"], ("a", "c")), InvalidStack, None)
# Endless on the empty stack: 0 puts a label on it, 1 removes it.
RING = (AB, 2, (("in", 0),), (), ((0, "", 1, ("b",)), (1, "b", 0, ())))


class StepTest(unittest.TestCase):
    def test_examples(self):
        self.assertEqual([step(C, 0, ("b", "b")), step(D, 0, ("b", "a")), step(G, 0, ("b",))],
                         [("state", 0, ("a", "a", "b")), ("exit", "out", ("b", "a")), ("stuck",)])

    def test_empty_stack(self):
        module = (AB, 2, (), ("out",), ((0, "", 1, ("a", "b")), (1, "", "out", ("b",))))
        self.assertEqual(step(module, 0, ()), ("state", 1, ("a", "b")))
        self.assertEqual(step(module, 1, ()), ("exit", "out", ("b",)))
        self.assertEqual(step(module, 0, ("a",)), ("stuck",))

    def test_only_the_top_counts(self):
        rest = ("b", "a") * 500
        for module in SAMPLES:
            for state in range(module[1]):
                for label in AB:
                    short = step(module, state, (label,))
                    long = step(module, state, (label,) + rest)
                    self.assertEqual(long, short if short == ("stuck",) else short[:2] + (short[2] + rest,))

    def test_errors(self):
        check_errors(self, step, {0: D, 1: 0, 2: ("a",)},
                     [MODULES, (1, (1, -1, True, False, None, "0", [0], 10 ** 39), UnknownState, "state"), STACKS])


class TraceTest(unittest.TestCase):
    def test_examples(self):
        self.assertEqual(runs.MAX_TRACE, 200)
        self.assertEqual(trace(D, "in", ("a", "b")), (((0, ("a", "b")), (0, ("b",))), ("exit", "out", ("b",))))
        self.assertEqual(trace(G, "in", ("a",), limit=1), (((0, ("a",)), (0, ("a", "b", "a"))), ("open",)))
        self.assertEqual(trace(G, "in", ("b",), limit=0), (((0, ("b",)),), ("stuck",)))
        with self.assertRaises(InvalidNumber) as caught:
            trace(D, "in", ("b",), limit=201)
        self.assertEqual(caught.exception.value, 201)

    def test_ends_at_the_limit(self):
        stack = ("a",) * 5 + ("b", "a")
        rows = tuple((0, stack[at:]) for at in range(6))
        for limit in range(6):
            self.assertEqual(trace(D, "in", stack, limit=limit), (rows[:limit + 1], ("open",)))
        for limit in (6, 7, 200):
            self.assertEqual(trace(D, "in", stack, limit=limit), (rows, ("exit", "out", ("b", "a"))))
        self.assertEqual(trace(D, "in", stack), trace(D, "in", stack, limit=100))

    def test_stuck_at_the_limit(self):
        module = (AB, 1, (("in", 0),), ("out",), ((0, "a", 0, ()),))
        stack = ("a",) * 5 + ("b", "a")
        rows = tuple((0, stack[at:]) for at in range(6))
        for limit in range(5):
            self.assertEqual(trace(module, "in", stack, limit=limit), (rows[:limit + 1], ("open",)))
        for limit in (5, 6, 200):
            self.assertEqual(trace(module, "in", stack, limit=limit), (rows, ("stuck",)))

    def test_long(self):
        stack = ("a",) * 1000
        configurations, end = trace(D, "in", stack, limit=200)
        self.assertEqual([len(configurations), configurations[200], end], [201, (0, stack[200:]), ("open",)])
        configurations, end = trace(D, "in", stack[:199], limit=200)
        self.assertEqual([len(configurations), end], [200, ("exit", "low", ())])
        configurations, end = trace(D, "in", stack[:200], limit=200)
        self.assertEqual([len(configurations), end], [201, ("open",)])
        self.assertEqual(len(trace(D, "in", stack)[0]), 101)
        self.assertEqual(trace(RING, "in", (), limit=200)[0], ((0, ()), (1, ("b",))) * 100 + ((0, ()),))

    def test_against_the_walker(self):
        for module in make_random_modules(1, 40, AB, 3, 2):
            for name, state in module[2]:
                for stack in stacks(AB, 2):
                    for limit in (0, 1, 2, 7, 30):
                        end, seen = walk(module, state, stack, limit + 1)
                        if end[0] == "exit" and len(seen) == limit + 1:
                            end = ("open",)
                        self.assertEqual(trace(module, name, stack, limit=limit), (tuple(seen), end))

    def test_errors(self):
        check_errors(self, trace, {0: D, 1: "in", 2: ("a",), "limit": 3}, [
            MODULES, ENTRIES, STACKS,
            ("limit", (201, -1, True, False, None, "3", [3], (3,), {}, 10 ** 39), InvalidNumber, "value")])


class IsTraceTest(unittest.TestCase):
    def test_examples(self):
        start = ((0, ("b",)),)
        self.assertIs(is_trace(D, "in", ("b",), (start, ("exit", "out", ("b",)))), True)
        self.assertIs(is_trace(D, "in", ("b",), (start, ("open",))), True)
        self.assertIs(is_trace(D, "in", ("b",), (start, ("stuck",))), False)

    def test_accepts_each_trace(self):
        for module in make_random_modules(2, 30, AB, 3, 2):
            for name, _ in module[2]:
                for stack in stacks(AB, 2):
                    for limit in range(8):
                        self.assertIs(is_trace(module, name, stack, trace(module, name, stack, limit=limit)), True)

    def test_more_steps_than_trace_gives(self):
        rows = tuple((0, ("a",) * left) for left in range(1000, -1, -1))
        self.assertIs(is_trace(D, "in", ("a",) * 1000, (rows, ("exit", "low", ()))), True)
        self.assertIs(is_trace(D, "in", ("a",) * 1000, (rows, ("open",))), True)
        self.assertIs(is_trace(D, "in", ("a",) * 1000, (rows[:-1], ("exit", "low", ()))), False)
        self.assertIs(is_trace(D, "in", ("a",) * 1000, (rows + ((0, ()),), ("open",))), False)

    def test_one_part_changed(self):
        rows, end = trace(D, "in", ("a", "b"))
        for value in ((rows, ("exit", "low", ("b",))), (rows, ("exit", "out", ())), (rows, ("exit", "out", ["b"])),
                      (rows, ("exit", "out")), (rows, ["exit", "out", ("b",)]), (rows, ("stuck",)), (rows, "open"),
                      (rows, ("open", ())), (rows, ()), (rows, None), (rows[:1], end), (rows[:1], ("stuck",)),
                      (rows[1:], end), (rows + rows[1:], end), (rows[::-1], end), ((), end), ((), ("open",)),
                      ((), ("stuck",)), (list(rows), end), (rows,), (rows, end, ()), [rows, end],
                      ((rows[0], (1, ("b",))), end), ((rows[0], (False, ("b",))), end), (((False, ("a", "b")), rows[1]), end),
                      ((rows[0], (0, ["b"])), end), ((rows[0], [0, ("b",)]), end), ((rows[0], (0, ("b",), 0)), end),
                      ((rows[0], (0,)), end), ((rows[0], None), end), ((rows[0], (0, ("b", "b"))), end),
                      ((rows[0], {}), end)) + ODD:
            self.assertIs(is_trace(D, "in", ("a", "b"), value), False, value)
        self.assertIs(is_trace(D, "in", ("a", "b"), (rows, end)), True)
        self.assertIs(is_trace(D, "in", ("a", "b"), (rows, ("open",))), True)
        self.assertIs(is_trace(D, "in", ("a", "b"), (rows[:1], ("open",))), True)

    def test_states_are_no_booleans(self):
        rows, end = trace(RING, "in", (), limit=3)
        self.assertIs(is_trace(RING, "in", (), (rows, end)), True)
        self.assertIs(is_trace(RING, "in", (), (rows[:1] + ((True, ("b",)),) + rows[2:], end)), False)
        self.assertIs(is_trace(RING, "in", (), (rows[:3] + ((True, ("b",)),), end)), False)

    def test_stuck(self):
        rows, end = trace(G, "in", ("b",))
        self.assertIs(is_trace(G, "in", ("b",), (rows, ("stuck",))), True)
        for wrong in (("open",), ("exit", "out", ("b",)), ("exit", "out", ()), "stuck", ("stuck", ()), ["stuck"]):
            self.assertIs(is_trace(G, "in", ("b",), (rows, wrong)), False, wrong)
        self.assertIs(is_trace(G, "in", ("b",), (rows + rows, ("stuck",))), False)
        self.assertIs(is_trace(RING, "in", (), (trace(RING, "in", (), limit=2)[0], ("stuck",))), False)

    def test_errors(self):
        for value in (trace(D, "in", ("a",)), None):
            check_errors(self, is_trace, {0: D, 1: "in", 2: ("a",), 3: value}, [MODULES, ENTRIES, STACKS])
