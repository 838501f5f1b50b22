import random
import unittest

from piledoors.compare.equivalence import are_equivalent, separating_stack
from piledoors.errors import InvalidContext, InvalidModule, NameConflict, TooLarge
from piledoors.linking.contexts import context_outcome, is_context, separating_context
from piledoors.linking.link import rename
from piledoors.modules.modules import is_module
from piledoors.results.results import result
from tests.samples import (AB, C, D, G, M, N, ODD, SAMPLES, T, Walks, check_errors, make_pairs, make_random_modules,
                           putting_back, ring, visits)
from tests.test_equivalence import not_comparable

MODULES = (0, ODD, InvalidModule, None)
K = (AB, 3, (("go", 0), ("out", 1)), ("in", "yes"), ((0, "", "in", ("a",)), (1, "a", 2, ()), (2, "", "yes", ())))
YES = rename(D, entries=(("in", "yes"),))
GO = rename(D, exits=(("low", "go"),))
BOTH = rename(YES, exits=(("low", "go"),))
TWELVE = tuple("abcdefghijkl")
NAMES = tuple("x" + letter for letter in TWELVE)


def outcome_by_visits(module, context, limit=300):
    """The outcome, by walking in the context and in the module in turn."""
    wires = [((0, name), (1, name)) for name in module[3]]
    wires += [((1, name), (0, name)) for name in context[3] if name != "yes"]
    told = visits([Walks(module, limit), Walks(context, limit)], wires, (1, "go"), (), limit)
    return None if told is None else told[2]


def random_contexts(seed, module, many):
    """Contexts whose rules are chosen at random; they often give control to the module and get it back."""
    draw = random.Random(seed)
    contexts = []
    names = [name for name, _ in module[2]]
    for _ in range(many):
        size = draw.randint(2, 4)
        rules = []
        for state in range(size):
            for top in ("",) + AB:
                target = draw.choice([draw.randrange(size), draw.choice(names), draw.choice(names), "yes" if state else names[0]])
                word = tuple(draw.choice(AB) for _ in range(draw.choice([0, 0, 1, 2, 5])))
                rules.append((state, top, target, word))
        entries = [("go", 0)] + [(name, draw.randrange(size)) for name in module[3]]
        contexts.append((AB, size, tuple(sorted(entries)), tuple(sorted(["yes"] + names)), tuple(rules)))
    return contexts


class ExamplesTest(unittest.TestCase):
    def test_examples(self):
        self.assertEqual([is_context(N, K), is_context(D, K)], [True, False])
        self.assertEqual([context_outcome(N, K), context_outcome(M, K), context_outcome(C, K)], [4, 5, None])
        told = separating_context(C, N)
        self.assertEqual([context_outcome(C, told) is None, context_outcome(N, told) is None].count(True), 1)
        self.assertEqual([separating_context(M, N), is_context(N, separating_context(M, N, clock=True))], [None, True])


class IsContextTest(unittest.TestCase):
    def test_one_part_changed(self):
        labels, size, entries, exits, rules = K
        wrong = [(("a", "b", "c"),) + K[1:], (("a",), size, entries, exits, ()), (labels, 2, entries, exits, rules),
                 (labels, size, entries[:1], exits, rules), (labels, size, entries[1:], exits, rules),
                 (labels, size, entries + (("zz", 0),), exits, rules), (labels, size, (("go", 0), ("on", 1)), exits, rules),
                 (labels, size, (("gone", 0), ("out", 1)), exits, rules), (labels, size, entries[::-1], exits, rules),
                 (labels, size, entries, ("in", "no"), ()), (labels, size, entries, ("in",), ()),
                 (labels, size, entries, ("yes",), ()), (labels, size, entries, exits + ("zz",), rules),
                 (labels, size, entries, ("in", "on", "yes"), rules), (labels, size, entries, ("on", "yes"), ()),
                 (labels, size, entries, exits, rules[::-1]), list(K), K[:4], K + ((),), N, M]
        for value in tuple(wrong) + ODD:
            self.assertIs(is_context(N, value), False, value)
            with self.assertRaises(InvalidContext):
                context_outcome(N, value)
        self.assertIs(is_context(N, (labels, 2, (("go", 1), ("out", 0)), exits, ())), True)
        self.assertIs(is_context(M, K), True)

    def test_names_that_both_have(self):
        """An entry called go and an exit called yes are no conflict."""
        module = rename(D, entries=(("in", "go"),), exits=(("low", "yes"),))
        context = (AB, 2, (("go", 0), ("out", 1), ("yes", 1)), ("go", "yes"), ((0, "", "go", ("a",)), (1, "", "yes", ())))
        self.assertIs(is_context(module, context), True)
        self.assertEqual(context_outcome(module, context), 4)
        self.assertIs(is_context(D, context), False)

    def test_many_doors(self):
        module = (AB, 1, tuple((name, 0) for name in NAMES[:11]), NAMES[:11], ())
        context = (AB, 1, (("go", 0),) + module[2], NAMES[:11] + ("yes",), ())
        self.assertIs(is_context(module, context), True)
        for more in (module[:2] + (tuple((name, 0) for name in NAMES),) + module[3:], module[:3] + (NAMES, ())):
            self.assertIs(is_context(more, context), False)
            self.assertRaises(InvalidContext, context_outcome, more, context)

    def test_errors(self):
        yes = (0, (YES, BOTH), NameConflict, None)
        go = (0, (GO,), NameConflict, None)
        check_errors(self, is_context, {0: N, 1: K}, [MODULES, yes, go])
        check_errors(self, is_context, {0: N, 1: None}, [MODULES, yes, go])
        check_errors(self, context_outcome, {0: N, 1: K}, [MODULES, yes, go, (1, ODD + (N, K[:4]), InvalidContext, None)])
        for module, name in ((YES, "yes"), (GO, "go"), (BOTH, "yes")):
            for call in (is_context, context_outcome):
                for value in (K, None):
                    with self.assertRaises(NameConflict) as caught:
                        call(module, value)
                    self.assertEqual(caught.exception.name, name)


class OutcomeTest(unittest.TestCase):
    def test_by_visits(self):
        outcomes = []
        for module in SAMPLES + (T,) + tuple(make_random_modules(81, 30, AB, 3, 2)):
            for context in random_contexts(82, module, 40):
                self.assertIs(is_context(module, context), True)
                told = context_outcome(module, context)
                self.assertEqual(told, outcome_by_visits(module, context), (module, context))
                outcomes.append(told)
        self.assertGreater(len(set(outcomes)), 15)
        self.assertGreater(outcomes.count(None), 200)
        self.assertGreater(len(outcomes) - outcomes.count(None), 200)

    def test_many_states_together(self):
        """A module of 70 states that puts labels on the stack, and a context of 70 that takes them away."""
        rules = [(0, "", 1, ("a", "b"))] + [(state, "a", state + 1, ("a", "b")) for state in range(1, 69)]
        module = (AB, 70, (("in", 0),), ("out",), tuple(rules + [(69, "a", "out", ("b",))]))
        taking = [(0, "", "in", ())] + [(state, "b", state + 1, ()) for state in range(1, 69)] + [(69, "b", 69, ()), (69, "", "yes", ())]
        context = (AB, 70, (("go", 0), ("out", 1)), ("in", "yes"), tuple(sorted(taking, key=lambda rule: rule[:2])))
        self.assertEqual(context_outcome(module, context), 1 + 70 + 70 + 1)
        self.assertEqual(outcome_by_visits(module, context), 142)
        stuck = context[:4] + (tuple(rule for rule in context[4] if rule[0] != 50),)
        self.assertIsNone(context_outcome(module, stuck))

    def test_endless(self):
        context = (AB, 1, (("go", 0), ("out", 0)), ("in", "yes"), ((0, "", "in", ("a",)), (0, "a", "in", ("a",))))
        self.assertIsNone(context_outcome(N, context))
        self.assertIsNone(context_outcome(G, context))
        self.assertEqual(context_outcome(N, context[:4] + (context[4][:1] + ((0, "a", "yes", ()),),)), 3)


class SeparatingContextTest(unittest.TestCase):
    def check(self, first, second, clock):
        told = separating_context(first, second, clock=clock)
        if told is None:
            self.assertIs(are_equivalent(first, second, clock=clock), True)
            return False
        self.assertIs(is_module(told), True)
        self.assertIs(is_context(first, told) and is_context(second, told), True)
        outcomes = [context_outcome(module, told) for module in (first, second)]
        self.assertEqual(outcomes, [outcome_by_visits(module, told) for module in (first, second)])
        self.assertNotEqual(*outcomes)
        if not clock:
            self.assertEqual(outcomes.count(None), 1)
        return True

    def test_small_modules(self):
        for clock in (False, True):
            told = [self.check(first, second, clock) for first, second in make_pairs(83, 60)]
            self.assertGreater(min(told.count(True), told.count(False)), 20)

    def test_one_never_leaves(self):
        for first, second in ((G, N), (N, G), (C, G), (G, C)):
            for clock in (False, True):
                self.assertIs(self.check(first, second, clock), True)

    def test_ticks_only(self):
        self.assertIs(self.check(D, T, True), True)
        self.assertIs(self.check(D, T, False), False)
        told = separating_context(M, N, clock=True)
        self.assertNotIn(None, [context_outcome(M, told), context_outcome(N, told)])

    def test_long_stacks(self):
        """The separating stack has so many labels; half of it is left, or all, or none."""
        for many in (0, 1, 19, 20, 21, 39, 40, 44, 45, 58, 59, 89, 90):
            removing = [(state, "a", state + 1, ()) for state in range(many)]
            first = (AB, many + 1, (("in", 0),), ("low", "out"), tuple(removing + [(many, "", "out", ())]))
            second = first[:4] + (tuple(removing + [(many, "", "low", ())]),)
            self.assertEqual(separating_stack(first, second), ("in", ("a",) * many))
            self.assertIs(self.check(first, second, False), True)
            self.assertIs(self.check(first[:4] + (tuple(removing),), first, False), True)
        for many in (0, 1, 20, 45):
            whole = putting_back(many, AB)
            first = whole[:4] + (tuple(rule for rule in whole[4] if rule[:2] != (many, "")),)
            self.assertEqual(separating_stack(whole, first), ("in", ("a",) * many))
            for one, two in ((first, whole), (whole, first)):
                self.assertIs(self.check(one, two, False), True)
            self.assertEqual(result(whole, "in", ("a",) * many)[:2], ("out", ("a",) * many))

    def test_too_long_stacks(self):
        for many in (46, 60, 80):
            whole = putting_back(many, AB)
            first = whole[:4] + (tuple(rule for rule in whole[4] if rule[:2] != (many, "")),)
            self.too_large(100, first, whole)
            self.too_large(100, whole, first)
        removing = [(state, "a", state + 1, ()) for state in range(91)]
        first = (AB, 92, (("in", 0),), ("low", "out"), tuple(removing + [(91, "", "out", ())]))
        self.too_large(100, first, first[:4] + (tuple(removing),))
        # What the second one leaves does not count if the first one has a result: 46 and 44 labels, or 46 and 46.
        keep = putting_back(46, AB)
        short = keep[:4] + (tuple(rule[:3] + (rule[3][:-2],) if rule[:2] == (46, "") else rule for rule in keep[4]),)
        told = [len(result(module, "in", ("a",) * 46)[1]) for module in (keep, short)]
        self.assertEqual(told, [46, 44])
        self.assertEqual(separating_stack(keep, short), ("in", ("a",) * 46))
        self.too_large(100, keep, short)
        self.assertIs(self.check(short, keep, False), True)

    def too_large(self, limit, first, second):
        with self.assertRaises(TooLarge) as caught:
            separating_context(first, second)
        self.assertEqual(caught.exception.limit, limit)

    def test_many_doors(self):
        entries = tuple((name, 0) for name in NAMES)
        doors = NAMES
        for many in (11, 12):
            for few in (1, 11):
                for one, two in ((many, few), (few, many)):
                    exits = doors[:two]
                    rules = tuple((0, top, exits[-1], ()) for top in ("",) + TWELVE)
                    first = (TWELVE, 1, entries[:one], exits, rules)
                    second = first[:4] + (rules[:-1],)
                    for clock in (False, True):
                        if many == 12:
                            self.too_large(11, first, second)
                            self.assertIsNone(separating_context(first, first, clock=clock))
                        else:
                            self.assertIs(self.check(first, second, clock), True)
        # Too many doors are found before too long a stack.
        removing = tuple((state, "a", state + 1, ()) for state in range(95))
        first = (AB, 96, entries, ("out",), removing + ((95, "", "out", ()),))
        self.too_large(11, first, first[:4] + (removing,))

    def test_large(self):
        first = ring(99, lambda state: state < 80, TWELVE)
        second = ring(98, lambda state: state < 80 or state > 90, TWELVE)
        self.assertEqual(separating_stack(first, second), ("in", ("a",) * 91))
        self.too_large(100, first, second)
        self.assertIs(self.check(first, ring(98, lambda state: state < 79, TWELVE), True), True)

    def test_errors(self):
        for more in ({}, {"clock": True}):
            other = (1, ODD + not_comparable(D), InvalidModule, None)
            check_errors(self, separating_context, {0: D, 1: T, **more}, [MODULES, other])
        for module, name in ((YES, "yes"), (GO, "go"), (BOTH, "yes")):
            for second in (module, module[:4] + ((),)):
                with self.assertRaises(NameConflict) as caught:
                    separating_context(module, second)
                self.assertEqual(caught.exception.name, name)
            self.assertRaises(InvalidModule, separating_context, module, D)


if __name__ == "__main__":
    unittest.main()
