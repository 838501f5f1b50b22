import unittest

from piledoors.compare.equivalence import are_equivalent, reading
from piledoors.compare.replacement import is_replacement, may_replace, replacement, replacement_gap
from piledoors.errors import InvalidModule
from piledoors.interfaces.settled import settled
from tests.samples import (AB, B, C, D, G, J, M, N, ODD, T, V, Closure, Walks, check_errors, make_pairs, putting_back, ring,
                           stacks, without_ticks)
from tests.test_equivalence import entry_reading, not_comparable

MODULES = (0, ODD, InvalidModule, None)
TWELVE = tuple("abcdefghijkl")


def with_fewer_rules(module, at):
    """The module without each second rule, from this one on."""
    return module[:4] + (module[4][:at] + module[4][at + 1::2],)


def make_cases(seed, many):
    """Pairs of modules of which one often may replace the other one."""
    pairs = make_pairs(seed, many)
    return pairs + [(with_fewer_rules(first, at % 5), second) for at, (first, second) in enumerate(pairs)]


def smallest_gap(old, new):
    """The first entry and the smallest stack, by the results on all stacks that a smallest gap can be."""
    labels, size = old.module[:2]
    for stack in stacks(labels, (size + 1) * (new.module[1] + 1) if len(labels) == 1 else min(7, size * new.module[1] + 2)):
        for name, _ in old.module[2]:
            told = old.result(name, stack)
            if told is not None and without_ticks(told) != without_ticks(new.result(name, stack)):
                return (name, stack)
    return None


class Papers(Closure):
    """The rules of 10.2 for two modules, with their readings."""

    def __init__(self, old, new):
        self.labels = old[0]
        tops = ("",) + old[0]
        self.old, self.new = [{state: [reading(module, state, top) for top in tops] for state in range(module[1])}
                              for module in (old, new)]
        self.entries = [(entry_reading(old, one[1], False), entry_reading(new, two[1], False))
                        for one, two in zip(old[2], new[2])]
        self.open = [[state for state in range(module[1]) if settled(module, state) is None] for module in (old, new)]

    def needed(self, left, right):
        """The pair by which a reading is covered; None if it is covered without one, False if it is not."""
        if left == ("never",) or (left[0] == "exit" and left == right):
            return None
        if left[0] == "state" and right[0] == "state":
            return (left[1], right[:2])
        return (left[1], right[:3]) if left[0] == "state" and right[0] == "exit" else False

    def all_needed(self, pairs):
        found = list(self.entries)
        for p, target in pairs:
            if target[0] == "state":
                found += zip(self.old[p], self.new[target[1]])
            else:
                words = [target[2]] + [target[2] + (label,) for label in self.labels]
                found += [(left, target[:2] + (word, 0)) for left, word in zip(self.old[p], words)]
        return [self.needed(left, right) for left, right in found]


class ExamplesTest(unittest.TestCase):
    def test_examples(self):
        self.assertEqual([may_replace(B, D), may_replace(D, B), may_replace(J, N), may_replace(N, J)],
                         [True, False, True, False])
        self.assertEqual([replacement_gap(B, D), replacement_gap(D, B), replacement_gap(C, N)],
                         [None, ("in", ()), ("in", ("a",))])
        self.assertEqual([replacement(B, D), replacement(J, N), replacement(D, B)],
                         [((0, ("state", 0)),), ((0, ("exit", "out", ())),), None])
        self.assertEqual([is_replacement(J, N, ((0, ("exit", "out", ())),)), is_replacement(J, N, ())], [True, False])


class GapTest(unittest.TestCase):
    def test_against_all_stacks(self):
        lengths = []
        for first, second in make_cases(61, 60):
            walks = Walks(first, 200), Walks(second, 200)
            told = [replacement_gap(first, second), replacement_gap(second, first)]
            self.assertEqual(told[0], smallest_gap(*walks), (first, second))
            self.assertEqual(told[1], smallest_gap(*walks[::-1]), (second, first))
            self.assertEqual([may_replace(first, second), may_replace(second, first)], [gap is None for gap in told])
            self.assertEqual(told == [None, None], are_equivalent(first, second))
            lengths += [None if gap is None else len(gap[1]) for gap in told]
        self.assertLessEqual({None, 0, 1, 2}, set(lengths))
        self.assertGreater(lengths.count(None), 150)

    def test_rings(self):
        for sizes, gap in (((3, 4), 11), ((4, 3), 11), ((7, 9), 62), ((9, 7), 62), ((2, 3), 5), ((99, 100), 9899)):
            old = ring(sizes[0], lambda state: state == sizes[0] - 1, stuck=True)
            new = ring(sizes[1], lambda state: state != sizes[1] - 1)
            told = replacement_gap(old, new)
            self.assertEqual(told, ("in", ("a",) * gap))
            self.assertIsNone(replacement(old, new))
            wide = [module[:2] + ((("in", 0), ("on", 1)),) + module[3:] for module in (old, new)]
            self.assertEqual(replacement_gap(*wide), ("on", ("a",) * (gap - 1)))
        old = ring(3, lambda state: state == 2, AB, stuck=True)
        self.assertEqual(replacement_gap(old, ring(4, lambda state: state != 3, AB)), ("in", ("a",) * 11))
        self.assertIsNone(replacement_gap(old, ring(6, lambda state: state % 3 == 2, AB)))
        self.assertEqual(len(replacement(old, ring(6, lambda state: state % 3 == 2, AB))), 6)
        self.assertEqual(replacement_gap(ring(6, lambda state: state % 3 == 2, AB), old), ("in", ()))

    def test_an_exit_with_a_growing_word(self):
        """Where the old module leaves at all, it puts back what it has read, as the settled new one always does."""
        new = N[:3] + (("low", "out"),) + N[4:]
        for size in (1, 2, 18):
            whole = putting_back(size, AB)
            old = whole[:4] + (tuple(rule for rule in whole[4] if rule[1] or rule[0] == size),)
            self.assertIsNone(replacement_gap(old, new))
            pairs = tuple((state, ("exit", "out", ("a",) * state)) for state in range(size))
            self.assertEqual(replacement(old, new), pairs)
            self.assertIs(is_replacement(old, new, pairs), True)
            wrong = old[:4] + (tuple(rule[:3] + (("b",),) if rule[:2] == (size, "") else rule for rule in old[4]),)
            self.assertEqual(replacement_gap(wrong, new), ("in", ("a",) * size))
            self.assertIsNone(replacement(wrong, new))

    def test_an_exit_with_two_words(self):
        """State 0 keeps removing labels a until it leaves: only one word can be right, but not for each number of them."""
        rules = ((0, "a", 0, ()), (0, "b", 1, ()), (1, "b", "out", ("b", "b")))
        old = (AB, 2, (("in", 0),), ("out",), rules)
        self.assertEqual(replacement_gap(old, N), ("in", ("a", "b", "b")))
        self.assertIsNone(replacement(old, N))
        self.assertIsNone(replacement_gap(old[:4] + (rules[1:],), N))
        self.assertEqual(replacement(old[:4] + (rules[1:],), N), ((0, ("exit", "out", ())), (1, ("exit", "out", ("b",)))))
        both = old[:2] + ((("in", 0), ("on", 0)),) + old[3:4] + (rules[1:],)
        other = (AB, 2, (("in", 0), ("on", 1)), ("out",), N[4] + ((1, "", "out", ("a",)), (1, "a", "out", ("a", "a")),
                                                                 (1, "b", "out", ("a", "b"))))
        self.assertEqual(replacement_gap(both, other), ("on", ("b", "b")))
        self.assertIsNone(replacement(both, other))

    def test_twelve_labels(self):
        keep = (TWELVE, 1, (("in", 0),), ("out",), tuple((0, top, "out", (top,) if top else ()) for top in ("",) + TWELVE))
        rules = [(state, label, state + 1, ()) for state in range(19) for label in TWELVE if label != "c"]
        rules += [(19, "l", "out", ("a",) * 19 + ("l",))]
        old = (TWELVE, 20, (("in", 0),), ("out",), tuple(rules))
        self.assertEqual(replacement_gap(old, keep), ("in", ("a",) * 18 + ("b", "l")))
        only = tuple(rule for rule in rules if rule[1] == "a" or rule[2] == "out")
        self.assertIsNone(replacement_gap(old[:4] + (only,), keep))
        self.assertEqual(len(replacement(old[:4] + (only,), keep)), 20)
        first, second = ring(100, lambda state: True, TWELVE), ring(97, lambda state: True, TWELVE)
        self.assertEqual(len(replacement(first, second)), 9700)
        self.assertIsNone(replacement_gap(first, second))

    def test_errors(self):
        for call in (may_replace, replacement_gap, replacement):
            check_errors(self, call, {0: B, 1: D}, [MODULES, (1, ODD + not_comparable(B), InvalidModule, None)])
            self.assertRaises(InvalidModule, call, N, D)


class ReplacementTest(unittest.TestCase):
    def test_least_replacement(self):
        sizes = []
        for old, new in make_cases(62, 70):
            papers = Papers(old, new)
            told = replacement(old, new)
            self.assertEqual(told, papers.closure(()), (old, new))
            if told is None:
                self.assertIs(is_replacement(old, new, ()), False)
                continue
            sizes.append(len(told))
            self.assertIs(is_replacement(old, new, told), True)
            for at in range(len(told)):
                self.assertIs(is_replacement(old, new, told[:at] + told[at + 1:]), False)
        self.assertLessEqual({0, 1, 2, 3}, set(sizes))

    def test_greater_replacements(self):
        """All pairs of a state that is not settled and a target, with what they need; and the same with one pair less."""
        accepted = refused = exits = 0
        for old, new in make_cases(63, 50):
            papers = Papers(old, new)
            least = papers.closure(())
            if least is None:
                continue
            words = [(), ("a",), ("a", "a")]
            targets = [("state", q) for q in papers.open[1]] + [("exit", door, word) for door in old[3] for word in words]
            for p in papers.open[0]:
                for target in targets:
                    told = papers.closure(least + ((p, target),))
                    value = told or tuple(sorted(set(least + ((p, target),))))
                    self.assertIs(is_replacement(old, new, value), told is not None, (old, new, value))
                    accepted += told is not None and told != least
                    exits += told is not None and told != least and target[0] == "exit"
                    refused += told is None
                    for pair in set(told or ()) - {(p, target)}:
                        value = tuple(one for one in told if one != pair)
                        good = set(papers.all_needed(value)) - {None} <= set(value)
                        self.assertIs(is_replacement(old, new, value), good)
        self.assertGreater(accepted, 50)
        self.assertGreater(exits, 10)
        self.assertGreater(refused, 100)

    def test_one_part_changed(self):
        whole = putting_back(2, AB)
        old = whole[:4] + (tuple(rule for rule in whole[4] if rule[1] or rule[0] == 2),)
        new = N[:3] + (("low", "out"),) + N[4:]
        good = replacement(old, new)
        self.assertEqual(good, ((0, ("exit", "out", ())), (1, ("exit", "out", ("a",)))))
        second = ("exit", "out", ("a",))
        wrong = [good[::-1], good[1:], good[:1], good + good[:1], good + good[1:], list(good), (good,), good[0], None,
                 good + ((2, ("exit", "out", ("a", "a"))),), good + ((3, ("exit", "out", ("b",))),), good + ((4, ("exit", "out", ())),), ((-1, second),) + good,
                 good[:1] + ((1, ("exit", "low", ("a",))),), good[:1] + ((1, ("exit", "out", ("b",))),),
                 good[:1] + ((1, ("exit", "out", ())),), good[:1] + ((1, ("exit", "zz", ("a",))),),
                 good[:1] + ((1, ("exit", "out", ["a"])),), good[:1] + ((1, ["exit", "out", ("a",)]),), good[:1] + ([1, second],),
                 good[:1] + ((1, second + (0,)),), good[:1] + ((1, second[:2]),), good[:1] + ((1, ("state", 0)),),
                 good[:1] + ((1,),), good[:1] + ((1, second, 0),), good[:1] + ((True, second),), ((False,) + good[0][1:],) + good[1:],
                 good[:1] + (("1", second),), good[:1] + ((1, None),), good[:1] + ((1, ("never",)),), {0: good[0][1]},
                 good + ((1, ("exit", "out", ("a", "c"))),), good[:1] + ((1, ("exit", "out", "a")),), good + (None,)]
        for value in tuple(wrong) + ODD:
            self.assertIs(is_replacement(old, new, value), False, value)
        self.assertIs(is_replacement(old, new, good), True)

    def test_states_as_targets(self):
        one = ring(2, lambda state: state == 0, AB, stuck=True)
        two = ring(4, lambda state: state != 1, AB)
        good = replacement(one, two)
        self.assertEqual(good, ((0, ("state", 0)), (0, ("state", 2)), (1, ("state", 1)), (1, ("state", 3))))
        self.assertIsNone(replacement(one, ring(4, lambda state: state != 2, AB)))
        for value in (good[:3] + ((1, ("state", True)),), good[:3] + ((1, ("state", "3")),), good[:3] + ((1, ("state", 4)),),
                      ((0, ("state", False)),) + good[1:], ((False, ("state", 0)),) + good[1:], good[:2] + ((1, ("state", True)),) +
                      good[3:], good[:3] + ((1, ("state", 3, 0)),), good[:3] + ((1, ("state",)),), good[:3] + ((1, ("class", 3)),),
                      good[:3] + ((1, ["state", 3]),), good[:3] + ((1, ("state", 2)),), good[:3], good[1:]):
            self.assertIs(is_replacement(one, two, value), False, value)
        self.assertIs(is_replacement(one, two, good), True)
        self.assertIs(is_replacement(N, M, ()), True)
        self.assertIs(is_replacement(M, N, ((0, ("exit", "out", ())),)), False)
        self.assertIs(is_replacement(J, N, ((0, ("state", 0)),)), False)
        self.assertEqual([replacement(D, T), replacement(T, D)], [((0, ("state", 0)),)] * 2)
        self.assertEqual([replacement(V, V), replacement(G, G)], [((0, ("state", 0)), (1, ("state", 1))), ((0, ("state", 0)),)])

    def test_errors(self):
        for value in (((0, ("state", 0)),), None):
            check_errors(self, is_replacement, {0: B, 1: D, 2: value}, [
                MODULES, (1, ODD + not_comparable(B), InvalidModule, None)])


if __name__ == "__main__":
    unittest.main()
