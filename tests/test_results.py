import random
import unittest

from piledoors.errors import InvalidModule, InvalidStack, UnknownEntry
from piledoors.results.results import descent, result
from tests.samples import AB, C, D, G, M, N, ODD, SAMPLES, chain, check_errors, make_random_modules, stacks
from tests.samples import walk, walk_result
from tests.test_summaries import TWELVE, doubling


def walked_descent(module, state, stack, limit):
    """The moments at which the stack is, for the first time, only so high as the rest of the stack."""
    _, seen = walk(module, state, stack, limit)
    found = []
    for ticks, (state, left) in enumerate(seen):
        depth = len(found)
        if depth <= len(stack) and len(left) == len(stack) - depth:
            found.append((depth, state, ticks))
    return tuple(found)


class ResultsTest(unittest.TestCase):
    def test_examples(self):
        self.assertEqual(descent(C, "in", ("b", "a")), ((0, 0, 0), (1, 0, 3), (2, 0, 4)))
        self.assertEqual(descent(D, "in", ("a", "b", "a")), ((0, 0, 0), (1, 0, 1)))
        self.assertEqual([result(D, "in", ("a", "a", "b", "a")), result(D, "in", ("a",))],
                         [("out", ("b", "a"), 3), ("low", (), 2)])
        self.assertEqual([result(C, "in", ("b", "a")), result(G, "in", ()), result(G, "in", ("a",)),
                          result(G, "in", ("b",))], [("out", (), 5), ("out", (), 1), None, None])

    def test_samples(self):
        for stack in stacks(AB, 4):
            self.assertEqual(result(N, "in", stack), ("out", stack, 1))
            self.assertEqual(result(M, "in", stack), ("out", stack, 2 if stack else 1))
            self.assertEqual(descent(N, "in", stack), ((0, 0, 0),))
        self.assertEqual(descent(D, "in", ()), ((0, 0, 0),))

    def test_against_the_walker(self):
        found = set()
        draw = random.Random(7)
        modules = list(SAMPLES) + make_random_modules(8, 60, AB, 3, 2)
        longer = [tuple(draw.choice(AB) for _ in range(length)) for length in (5, 9, 14)]
        for module in modules:
            for name, state in module[2]:
                for stack in stacks(AB, 2) + longer:
                    told = result(module, name, stack)
                    self.assertEqual(told, walk_result(module, state, stack, 400), (module, name, stack))
                    moments = descent(module, name, stack)
                    self.assertEqual(moments, walked_descent(module, state, stack, 400), (module, name, stack))
                    found.add((told is None, len(moments) > len(stack), bool(stack)))
        self.assertEqual(len(found), 6)

    def test_tall_stack(self):
        stack = ("a", "b") * 2000
        self.assertEqual(result(C, "in", stack), ("out", (), 8001))
        moments = descent(C, "in", stack)
        self.assertEqual([len(moments), moments[-1]], [4001, (4000, 0, 8000)])
        self.assertEqual(result(D, "in", ("a",) * 3999 + ("b",)), ("out", ("b",), 4000))
        self.assertEqual(result(D, "in", ("a",) * 2000 + ("b",) * 2000), ("out", ("b",) * 2000, 2001))
        self.assertIsNone(result(G, "in", stack))

    def test_exact_ticks(self):
        ticks = {}
        for label in TWELVE[::-1]:
            ticks[label] = 1 + 20 * sum(list(ticks.values())[-1:])
        self.assertEqual(result(doubling(), "in", TWELVE), ("out", (), sum(ticks.values()) + 1))
        self.assertEqual(descent(doubling(), "in", ("a", "l"))[1:], ((1, 0, ticks["a"]), (2, 0, ticks["a"] + 1)))

    def test_chains(self):
        module, row = chain(1200, ("out", ("b",)))
        self.assertEqual(result(module, "in", ("a", "c")), ("out", ("b", "c"), 1200))
        module, row = chain(1300, ("out", ("b",)))
        self.assertEqual(result(module, "in", ()), ("out", ("b",), 1300))

    def test_errors(self):
        for call in (descent, result):
            check_errors(self, call, {0: D, 1: "in", 2: ("a",)}, [
                (0, ODD, InvalidModule, None), (1, ODD + ("out", "low", 0, ("in",)), UnknownEntry, "name"),
                (2, ODD + ("a", ["a", "b"], ("a", "c"), ("a", "")), InvalidStack, None)])
