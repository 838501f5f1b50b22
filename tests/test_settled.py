import unittest

from piledoors.errors import InvalidClaim, InvalidModule, UnknownState
from piledoors.interfaces.settled import leaving_stack, refutation, settled
from tests.samples import (AB, C, D, G, M, N, ODD, SAMPLES, V, check_errors, make_keeping_modules, make_random_modules,
                           putting_back, stacks, walk_result)

MODULES = (0, ODD, InvalidModule, None)
STATES = (1, (2, -1, True, False, None, "0", (0,), [0], {}, 10 ** 39), UnknownState, "state")


def make_cases():
    """Modules, each with a limit for the steps of a run that does not go on for ever."""
    cases = [(module, 300) for module in SAMPLES + (V, putting_back(2, ("a", "b")))]
    cases += [(module, 500) for module in make_random_modules(31, 120, AB, 3, 2) + make_random_modules(32, 60, ("a",), 4, 2)]
    return cases + [(module, 300) for module in make_keeping_modules(33, 150)]


def claim_holds(told, claim, stack, clock):
    """Whether a claim holds for a state on a stack on which this is its result."""
    if told is None or claim == ("never",):
        return told is None and claim == ("never",)
    return told[:2] == (claim[1], claim[2] + stack) and (not clock or told[2] == claim[3])


class Walked:
    """The results from all states of a module on all stacks with at most one label more than there are states."""

    def __init__(self, module, limit):
        self.all = stacks(module[0], module[1] + 1)
        self.results = {(state, stack): walk_result(module, state, stack, limit) for state in range(module[1])
                        for stack in self.all}

    def leaving_stack(self, state):
        return next((stack for stack in self.all if self.results[(state, stack)] is not None), None)

    def refutation(self, state, claim, clock):
        return next((stack for stack in self.all if not claim_holds(self.results[(state, stack)], claim, stack, clock)), None)

    def settled(self, state, clock):
        told = self.results[(state, ())]
        claim = ("never",) if told is None else ("exit",) + told[:2] + (told[2] if clock else 0,)
        return claim if self.refutation(state, claim, clock) is None else None


class ExamplesTest(unittest.TestCase):
    def test_examples(self):
        self.assertEqual([leaving_stack(V, 0), leaving_stack(V, 1), leaving_stack(D, 0)], [("b", "a"), ("a",), ()])
        self.assertEqual([settled(M, 0), settled(M, 0, clock=True), settled(M, 1, clock=True), settled(D, 0)],
                         [("exit", "out", (), 0), None, ("exit", "out", ("a",), 1), None])
        self.assertEqual([refutation(D, 0, ("exit", "low", (), 0)), refutation(M, 0, ("exit", "out", (), 1), clock=True)],
                         [("a",), ("a",)])
        self.assertEqual([refutation(M, 0, ("exit", "out", (), 0)), refutation(V, 0, ("never",))], [None, ("b", "a")])


class WalkedTest(unittest.TestCase):
    def test_leaving_stacks(self):
        lengths = set()
        for module, limit in make_cases():
            walked = Walked(module, limit)
            for state in range(module[1]):
                told = leaving_stack(module, state)
                self.assertEqual(told, walked.leaving_stack(state), (module, state))
                lengths.add(None if told is None else len(told))
        self.assertLessEqual({None, 0, 1, 2}, lengths)

    def test_settled(self):
        kinds = set()
        for module, limit in make_cases():
            walked = Walked(module, limit)
            for state in range(module[1]):
                with_clock = settled(module, state, clock=True)
                without = settled(module, state)
                self.assertEqual(with_clock, walked.settled(state, True), (module, state))
                self.assertEqual(without, walked.settled(state, False), (module, state))
                self.assertEqual(settled(module, state, clock=False), without)
                kinds.add((with_clock and with_clock[0], without and without[0]))
                if with_clock is not None and with_clock[0] == "exit":
                    self.assertEqual(without, with_clock[:3] + (0,))
        self.assertEqual(kinds, {(None, None), ("exit", "exit"), (None, "exit"), ("never", "never")})

    def test_refutations(self):
        lengths = set()
        for module, limit in make_cases():
            walked = Walked(module, limit)
            for state in range(module[1]):
                for clock in (False, True):
                    for claim in self.claims(walked, state, clock):
                        told = refutation(module, state, claim, clock=clock)
                        self.assertEqual(told, walked.refutation(state, claim, clock), (module, state, claim))
                        lengths.add((claim[0], told if told is None else len(told)))
        self.assertLessEqual({(kind, size) for kind in ("exit", "never") for size in (None, 0, 1, 2)}, lengths)

    def claims(self, walked, state, clock):
        claims = [("never",)]
        for stack in walked.all[:7]:
            told = walked.results[(state, stack)]
            if told is not None:
                word = told[1][:len(told[1]) - len(stack)]
                for ticks in (told[2] - 1, told[2], told[2] + 1) if clock else (0,):
                    if ticks > 0 or not clock:
                        claims += [("exit", told[0], word, ticks), ("exit", told[0], word + ("a",), ticks),
                                   ("exit", "out", (), ticks)]
        return claims


class LongTest(unittest.TestCase):
    """States that read a word and put it back."""

    def test_chains(self):
        for size in (1, 2, 3, 18, 19):
            for labels in (("a",), AB):
                module = putting_back(size, labels)
                self.assertEqual(settled(module, 0), ("exit", "out", (), 0))
                self.assertIsNone(refutation(module, 0, ("exit", "out", (), 0)))
                self.assertEqual(leaving_stack(module, 0), ())
                for state in range(min(size, 18) + 1):
                    self.assertEqual(settled(module, state, clock=True) is None, state < size)
                    self.assertEqual(settled(module, state), ("exit", "out", ("a",) * state, 0))

    def test_a_wrong_end(self):
        claim = ("exit", "out", (), 0)
        for size in (1, 2, 18, 19):
            module = putting_back(size, AB)
            last = ("a",) * size
            ends = {(size, "", "out", last + ("a",)): last, (size, "", "low", last): last,
                    (size, "a", "out", last): last + ("a",), (size, "a", "low", last + ("a",)): last + ("a",),
                    (size, "b", "out", last): last + ("b",), (size, "b", size, ("b",)): last + ("b",),
                    (size, "b", 0, ()): last + ("b",)}
            for rule, stack in ends.items():
                wrong = tuple(rule if rule[:2] == old[:2] else old for old in module[4])
                for state in range(size + 1):
                    self.assertIsNone(settled(module[:4] + (wrong,), state))
                    self.assertEqual(refutation(module[:4] + (wrong,), state, claim[:2] + (("a",) * state, 0)), stack[state:])
            missing = tuple(rule for rule in module[4] if rule[:2] != (size, "b"))
            self.assertEqual(refutation(module[:4] + (missing,), 0, claim), last + ("b",))

    def test_many_states(self):
        module = putting_back(90, ("a",))
        self.assertEqual(module[1], 96)
        self.assertEqual(settled(module, 0), ("exit", "out", (), 0))
        self.assertEqual(settled(module, 90), ("exit", "out", ("a",) * 90, 0))
        self.assertEqual(settled(module, 90, clock=True), ("exit", "out", ("a",) * 90, 6))
        self.assertIsNone(settled(module, 89, clock=True))
        wrong = module[:4] + (tuple(rule for rule in module[4] if rule[:2] != (90, "a")),)
        self.assertEqual(refutation(wrong, 0, ("exit", "out", (), 0)), ("a",) * 91)
        self.assertEqual([leaving_stack(wrong, 0), leaving_stack(wrong, 90)], [(), ()])
        silent = module[:4] + (tuple(rule for rule in module[4] if rule[1] or rule[0] > 89),)
        self.assertEqual(leaving_stack(silent, 0), ("a",) * 90)
        self.assertEqual(refutation(silent, 3, ("never",)), ("a",) * 87)
        self.assertEqual(refutation(silent, 3, ("exit", "out", ("a",) * 3, 0)), ())
        self.assertIsNone(refutation(silent, 90, ("exit", "out", ("a",) * 90, 0)))

    def test_twelve_labels(self):
        labels = tuple("abcdefghijkl")
        rules = [(state, label, state + 1, ()) for state in range(99) for label in labels]
        module = (labels, 100, (), ("out",), tuple(rules + [(99, "l", "out", ())]))
        self.assertEqual(leaving_stack(module, 0), ("a",) * 99 + ("l",))
        self.assertEqual(refutation(module, 0, ("never",), clock=True), ("a",) * 99 + ("l",))
        self.assertEqual(settled(module[:4] + (tuple(rules),), 0), ("never",))


class ClaimsTest(unittest.TestCase):
    def wrong_claims(self, ticks, wrong_ticks):
        good = ("exit", "out", ("a",), ticks)
        wrong = [good[:3] + (part,) for part in wrong_ticks + (True, False, None, "1", (1,))]
        wrong += [good[:2] + (part, ticks) for part in (None, "a", ["a"], ("c",), ("",), (1,), ("a", None), {}, (("a",),))]
        wrong += [("exit", part) + good[2:] for part in ("in", "other", "", None, 0, ("out",), ["out"])]
        wrong += [(part,) + good[1:] for part in ("never", "pop", "", None, True)]
        wrong += [good[:3], good + (0,), list(good), (), ("never", 0), ["never"], "never", ("stuck",), (("never",),)]
        return tuple(wrong) + ODD

    def test_errors(self):
        check_errors(self, leaving_stack, {0: V, 1: 0}, [MODULES, STATES])
        check_errors(self, settled, {0: V, 1: 0}, [MODULES, STATES])
        check_errors(self, settled, {0: V, 1: 0, "clock": True}, [MODULES, STATES])
        claims = (2, self.wrong_claims(0, (1, -1, 10 ** 39)), InvalidClaim, None)
        check_errors(self, refutation, {0: V, 1: 0, 2: ("exit", "out", ("a",), 0)}, [MODULES, STATES, claims])
        claims = (2, self.wrong_claims(1, (0, -1, -10 ** 39)), InvalidClaim, None)
        check_errors(self, refutation, {0: V, 1: 0, 2: ("exit", "out", ("a",), 10 ** 39), "clock": True},
                     [MODULES, STATES, claims])

    def test_exits_must_be_those_of_the_module(self):
        bare = D[:3] + ((), ())
        for door in ("out", "low", "in", ""):
            self.assertRaises(InvalidClaim, refutation, bare, 0, ("exit", door, (), 0))
        self.assertIsNone(refutation(bare, 0, ("never",)))
        self.assertEqual(refutation(D, 0, ("exit", "low", ("a",) * 3000, 0)), ())
        self.assertEqual(refutation(G, 0, ("exit", "out", (), 10 ** 39), clock=True), ())
        self.assertEqual([refutation(C, 0, ("exit", "out", (), 0)), refutation(N, 0, ("exit", "out", (), 0))], [("a",), None])


if __name__ == "__main__":
    unittest.main()
