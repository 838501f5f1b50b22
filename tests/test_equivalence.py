import copy
import unittest

from piledoors.compare.equivalence import are_equivalent, is_likeness, likeness, reading, separating_stack
from piledoors.errors import InvalidModule, InvalidStack, UnknownState
from piledoors.interfaces.interfaces import interface
from piledoors.interfaces.settled import settled
from piledoors.summaries.summaries import summary
from tests.samples import (AB, C, D, G, M, N, ODD, SAMPLES, T, V, Closure, Walks, check_errors, make_keeping_modules,
                           make_pairs, make_random_modules, putting_back, ring, stacks, without_ticks)

MODULES = (0, ODD, InvalidModule, None)
STATES = (1, (1, -1, True, False, None, "0", (0,), [0], {}, 10 ** 39), UnknownState, "state")
TOPS = (2, ("c", "A", "ab", None, 0, ("a",), ["a"], {}, ()), InvalidStack, None)


def not_comparable(module):
    """Modules that are not comparable with this one."""
    labels, size, entries, exits, rules = module
    return ((("a", "b", "c"), size, entries, exits, rules), (labels, size, entries[1:], exits, rules),
            (labels, size, entries + (("zz", 0),), exits, rules), (labels, size, entries, exits + ("zz",), rules),
            (labels, size, entries, exits[1:], ()), (labels, size, (("zz", 0),) * len(entries), exits, rules))


def smallest_separating(first, second, clock):
    """The first entry and the smallest stack, by the results on all stacks of so many labels as 9.2 tells."""
    labels = first.module[0]
    for stack in stacks(labels, first.module[1] + second.module[1]):
        for name, _ in first.module[2]:
            told = [walks.result(name, stack) for walks in (first, second)]
            if not clock:
                told = [without_ticks(one) for one in told]
            if told[0] != told[1]:
                return (name, stack)
    return None


def entry_reading(module, state, clock):
    claim = settled(module, state, clock=clock)
    return ("state", state, 0) if claim is None else claim


class Papers(Closure):
    """The rules of 9.4 for two modules, with their readings."""

    def __init__(self, first, second, clock):
        self.modules = (first, second)
        tops = ("",) + first[0]
        self.tables = [{(state, top): reading(module, state, top, clock=clock) for state in range(module[1]) for top in tops}
                       for module in self.modules]
        self.tops = tops
        self.entries = [(entry_reading(first, one[1], clock), entry_reading(second, two[1], clock))
                        for one, two in zip(first[2], second[2])]
        self.open = [[state for state in range(module[1]) if settled(module, state, clock=clock) is None]
                     for module in self.modules]

    def needed(self, left, right, lead):
        """The triple by which two readings match; None if they match without one, False if they never do."""
        if left[0] == right[0] == "state":
            return (left[1], right[1], lead + right[2] - left[2])
        if left[0] == right[0] == "exit" and left == right[:3] + (right[3] + lead,):
            return None
        return None if left == right == ("never",) else False

    def all_needed(self, triples):
        pairs = [(left, right, 0) for left, right in self.entries]
        for p, q, lead in triples:
            pairs += [(self.tables[0][(p, top)], self.tables[1][(q, top)], lead) for top in self.tops]
        return [self.needed(*pair) for pair in pairs]


class ExamplesTest(unittest.TestCase):
    def test_examples(self):
        self.assertEqual([reading(T, 0, "a", clock=True), reading(T, 1, "b"), reading(M, 0, "a")],
                         [("state", 0, 2), ("never",), ("exit", "out", ("a",), 0)])
        self.assertEqual([are_equivalent(M, N), are_equivalent(M, N, clock=True), are_equivalent(D, T), are_equivalent(C, N)],
                         [True, False, True, False])
        self.assertEqual([separating_stack(M, N), separating_stack(M, N, clock=True), separating_stack(C, N)],
                         [None, ("in", ("a",)), ("in", ("a",))])
        self.assertEqual([likeness(D, T), likeness(D, T, clock=True), likeness(M, N)], [((0, 0, 0),), None, ()])
        self.assertEqual([is_likeness(D, T, ((0, 0, 0),)), is_likeness(D, T, ())], [True, False])


class ReadingTest(unittest.TestCase):
    def test_readings(self):
        kinds = set()
        modules = SAMPLES + (T, V, putting_back(2, AB)) + tuple(make_random_modules(51, 60, AB, 3, 2))
        for module in modules + tuple(make_keeping_modules(52, 60)):
            walks = Walks(module, 500)
            for clock in (False, True):
                for state in range(module[1]):
                    for top in ("",) + module[0]:
                        told = reading(module, state, top, clock=clock)
                        kinds.add((told[0], summary(module, state, top)[0], bool(top)))
                        self.assertEqual(told, self.by_rules(module, state, top, clock))
                        self.check_results(walks, state, top, told, clock)
        self.assertEqual(len(kinds), 7)

    def by_rules(self, module, state, top, clock):
        told = summary(module, state, top)
        if told[0] == "pop":
            claim = settled(module, told[1], clock=clock)
            if claim is None:
                told = ("state",) + told[1:]
            else:
                told = claim if claim[0] == "never" else claim[:3] + (claim[3] + told[2],)
        return told if clock or told[0] == "never" else told[:-1] + (0,)

    def check_results(self, walks, state, top, told, clock):
        for rest in stacks(walks.module[0], 2) if top else [()]:
            found = walks.result_from(state, ((top,) if top else ()) + rest)
            if told[0] == "never":
                self.assertIsNone(found)
            elif told[0] == "exit":
                self.assertEqual(found if clock else without_ticks(found), (told[1], told[2] + rest, told[3]))
            else:
                behind = walks.result_from(told[1], rest)
                if behind is not None:
                    behind = behind[:2] + (behind[2] + told[2] if clock else 0,)
                self.assertEqual(found if clock else without_ticks(found), behind)

    def test_errors(self):
        check_errors(self, reading, {0: D, 1: 0, 2: "a"}, [MODULES, STATES, TOPS])
        check_errors(self, reading, {0: D, 1: 0, 2: "", "clock": True}, [MODULES, STATES, TOPS])


class SeparatingTest(unittest.TestCase):
    def test_against_all_stacks(self):
        lengths = {True: [], False: []}
        for first, second in make_pairs(53, 100):
            walks = Walks(first, 200), Walks(second, 200)
            for clock in (False, True):
                told = separating_stack(first, second, clock=clock)
                self.assertEqual(told, smallest_separating(*walks, clock), (first, second))
                self.assertEqual(are_equivalent(first, second, clock=clock), told is None)
                self.assertEqual(interface(first, clock=clock) == interface(second, clock=clock), told is None)
                lengths[clock].append(None if told is None else len(told[1]))
        for clock in (False, True):
            self.assertLessEqual({None, 0, 1, 2}, set(lengths[clock]))
            self.assertGreater(lengths[clock].count(None), 60)
        self.assertGreater(lengths[False].count(None), lengths[True].count(None))

    def test_the_first_entry(self):
        """All entries differ; that with the smallest stack counts, or the first one of several."""
        other = N[:4] + (N[4][:1] + ((0, "a", "out", ()),) + N[4][2:],)
        entries = (("a", 0), ("b", 0), ("c", 0))
        first, second = [module[:2] + (entries,) + module[3:] for module in (N, other)]
        self.assertEqual(separating_stack(first, second), ("a", ("a",)))
        rules = ((0, "a", 1, ()), (1, "a", 2, ()), (2, "a", 3, ()), (3, "", "out", ()))
        left = (("a",), 4, (("a", 0), ("b", 2), ("c", 1)), ("out",), rules)
        right = left[:4] + (rules[:3],)
        self.assertEqual(separating_stack(left, right), ("b", ("a",)))
        left, right = [module[:2] + ((("a", 0), ("c", 1), ("d", 1)),) + module[3:] for module in (left, right)]
        self.assertEqual(separating_stack(left, right), ("c", ("a", "a")))

    def test_ticks_only(self):
        self.assertEqual(separating_stack(D, T), None)
        self.assertEqual(separating_stack(D, T, clock=True), ("in", ("a",)))
        slow = putting_back(18, AB)
        quick = (AB, 1, (("in", 0),), ("low", "out"), tuple((0, top, "out", (top,) if top else ()) for top in ("",) + AB))
        self.assertIsNone(separating_stack(slow, quick))
        self.assertEqual(separating_stack(slow, quick, clock=True), ("in", ("a",)))

    def test_two_differences_for_one_pair(self):
        """Label b takes two ticks in the first module: the same states are met behind a and b, but not with the same ticks."""
        rules = [(0, "a", 1, ()), (0, "b", 1, ()), (1, "a", 2, ()), (1, "b", 2, ()), (2, "a", "out", ())]
        plain = (AB, 4, (("in", 0), ("on", 1)), ("out",), tuple(rules))
        slow = (AB, 4, (("in", 0), ("on", 1)), ("out",), tuple(sorted(rules[:1] + rules[2:] + [(0, "b", 3, ("b",)), (3, "b", 1, ())])))
        self.assertIsNone(separating_stack(plain, slow))
        self.assertEqual(likeness(plain, slow), ((0, 0, 0), (1, 1, 0), (2, 2, 0)))
        for first, second in ((plain, slow), (slow, plain)):
            self.assertEqual(separating_stack(first, second, clock=True), ("in", ("b", "a", "a")))
            self.assertIsNone(likeness(first, second, clock=True))
        # With the same difference on both ways it is no other result.
        both = slow[:4] + (tuple(sorted([(0, "a", 3, ("b",)), (0, "b", 3, ("b",)), (3, "b", 1, ())] + rules[2:])),)
        entries = (("in", 0), ("on", 2))
        for first, second in ((plain, both), (both, plain)):
            first, second = [module[:2] + (entries,) + module[3:] for module in (first, second)]
            self.assertEqual(separating_stack(first, second, clock=True), ("in", ("a", "a", "a")))
        late = plain[:4] + (tuple(rules[:2] + [(1, "a", 3, ("a",)), (1, "b", 3, ("a",)), (2, "a", "out", ()), (3, "a", 2, ())]),)
        first, second = [module[:2] + ((("in", 0),),) + module[3:] for module in (both, late)]
        self.assertIsNone(separating_stack(first, second, clock=True))
        self.assertEqual(likeness(first, second, clock=True), ((0, 0, 0), (1, 1, -1), (2, 2, 0)))

    def test_rings(self):
        first, second = ring(7, lambda state: state == 6), ring(9, lambda state: state == 6)
        self.assertEqual(separating_stack(first, second), ("in", ("a",) * 13))
        first, second = ring(100, lambda state: state < 99), ring(99, lambda state: True)
        self.assertEqual(separating_stack(first, second), ("in", ("a",) * 99))
        labels = tuple("abcdefghijkl")
        first, second = ring(100, lambda state: True, labels), ring(97, lambda state: True, labels)
        for clock in (False, True):
            self.assertIsNone(separating_stack(first, second, clock=clock))
            self.assertEqual(len(likeness(first, second, clock=clock)), 9700)

    def test_large(self):
        rules = [(state, label, (state + at + 1) % 100, ()) for state in range(100) for at, label in enumerate("abcdefghijkl")]
        first = (tuple("abcdefghijkl"), 100, (("in", 0),), ("out",), tuple(sorted(rules + [(99, "", "out", ())])))
        last = ("l",) * 8 + ("c",)
        second = first[:4] + (first[4][:-1] + ((99, "l", 0, ()),),)
        for clock in (False, True):
            self.assertIsNone(separating_stack(first, first, clock=clock))
            told = separating_stack(first, second, clock=clock)
            self.assertEqual((told[0], len(told[1])), ("in", len(last) + 9))
            self.assertEqual(len(likeness(first, first, clock=clock)), 100)

    def test_errors(self):
        for call in (are_equivalent, separating_stack, likeness):
            for more in ({}, {"clock": True}):
                check_errors(self, call, {0: D, 1: T, **more}, [MODULES, (1, ODD + not_comparable(D), InvalidModule, None)])
            self.assertRaises(InvalidModule, call, M, D)


class LikenessTest(unittest.TestCase):
    def test_least_likeness(self):
        sizes = []
        for first, second in make_pairs(54, 100):
            for clock in (False, True):
                papers = Papers(first, second, clock)
                told = likeness(first, second, clock=clock)
                self.assertEqual(told, papers.closure(()), (first, second))
                self.assertEqual(told is None, not are_equivalent(first, second, clock=clock))
                if told is None:
                    self.assertIs(is_likeness(first, second, (), clock=clock), False)
                    continue
                sizes.append(len(told))
                self.assertIs(is_likeness(first, second, told, clock=clock), True)
                for at in range(len(told)):
                    self.assertIs(is_likeness(first, second, told[:at] + told[at + 1:], clock=clock), False)
                walks = Walks(first, 500), Walks(second, 500)
                for p, q, lead in told:
                    for stack in stacks(first[0], 3):
                        one, two = walks[0].result_from(p, stack), walks[1].result_from(q, stack)
                        if two is not None:
                            two = two[:2] + (two[2] + lead if clock else 0,)
                        self.assertEqual(one if clock else without_ticks(one), two)
        self.assertLessEqual({0, 1, 2, 3}, set(sizes))

    def test_greater_likenesses(self):
        """All triples of states that are not settled, with what they need; and the same with one triple less."""
        accepted = refused = 0
        for first, second in make_pairs(55, 60):
            for clock in (False, True):
                papers = Papers(first, second, clock)
                least = papers.closure(())
                if least is None:
                    continue
                for p in papers.open[0]:
                    for q in papers.open[1]:
                        for lead in (-1, 0, 1) if clock else (0,):
                            told = papers.closure(least + ((p, q, lead),))
                            value = told or tuple(sorted(set(least + ((p, q, lead),))))
                            self.assertIs(is_likeness(first, second, value, clock=clock), told is not None, (first, second))
                            accepted += told is not None and told != least
                            refused += told is None
                            for triple in set(told or ()) - {(p, q, lead)}:
                                value = tuple(one for one in told if one != triple)
                                good = set(papers.all_needed(value)) - {None} <= set(value)
                                self.assertIs(is_likeness(first, second, value, clock=clock), good)
        self.assertGreater(accepted, 30)
        self.assertGreater(refused, 100)

    def test_one_part_changed(self):
        rules = [(0, "a", 1, ()), (0, "b", 1, ()), (1, "a", 2, ()), (1, "b", 2, ()), (2, "a", "out", ())]
        first = (AB, 4, (("in", 0),), ("out",), tuple(rules + [(3, "", "out", ("a",))] + [(3, x, "out", ("a", x)) for x in AB]))
        for clock in (False, True):
            good = likeness(first, first, clock=clock)
            self.assertEqual(good, ((0, 0, 0), (1, 1, 0), (2, 2, 0)))
            wrong = [good[::-1], good[1:], good[:2], good + good[:1], good + good[2:], list(good), good[0], (good,), None,
                     good + ((3, 3, 0),), good[:2] + ((2, 2, 1),), good + ((2, 2, 1),), good + ((2, 3, 0),), good[:2] + ((2, 1, 0),),
                     good + ((4, 4, 0),), ((-1, 0, 0),) + good, good[:2] + ((2, 2),), good[:2] + ((2, 2, 0, 0),),
                     good[:2] + ([2, 2, 0],), good[:2] + ("220",), good[:2] + ((2, 2, None),), good[:2] + ((2, 2, "0"),),
                     good[:2] + (("2", 2, 0),), good[:2] + (None,), ((False, 0, 0),) + good[1:], ((0, False, 0),) + good[1:],
                     ((0, 0, False),) + good[1:], good[:1] + ((True, 1, 0),) + good[2:], good[:1] + ((1, True, 0),) + good[2:],
                     good[:2] + ((2, 2, 10 ** 39),), good[:2] + ((10 ** 39, 2, 0),), good[:2] + ((2, 2, ()),), {}, 0, True]
            for value in tuple(wrong) + ODD:
                self.assertIs(is_likeness(first, first, value, clock=clock), False, value)
            self.assertIs(is_likeness(first, first, good, clock=clock), True)
        self.assertIs(is_likeness(N, M, ()), True)
        self.assertIs(is_likeness(N, M, (), clock=True), False)
        self.assertIs(is_likeness(N, M, ((0, 0, 0),)), False)

    def test_errors(self):
        for value in (((0, 0, 0),), None):
            for more in ({}, {"clock": True}):
                check_errors(self, is_likeness, {0: D, 1: T, 2: value, **more},
                             [MODULES, (1, ODD + not_comparable(D), InvalidModule, None)])

    def test_nothing_is_changed(self):
        before = copy.deepcopy((D, T, G))
        self.assertEqual(likeness(D, T), likeness(D, T))
        self.assertEqual(separating_stack(D, T, clock=True), separating_stack(D, T, clock=True))
        self.assertIs(is_likeness(D, T, ((0, 0, 0),)), True)
        self.assertEqual((D, T, G), before)


if __name__ == "__main__":
    unittest.main()
