import copy
import itertools
import random
import unittest

from piledoors.compare.equivalence import are_equivalent, separating_stack
from piledoors.compare.slowdown import is_slowdown, slowdown
from piledoors.errors import InvalidModule, NotEquivalent
from piledoors.results.long import result_of_blocks
from piledoors.results.results import result
from piledoors.summaries.summaries import summary
from tests.samples import (AB, C, D, G, M, N, ODD, T, V, Walks, check_errors, make_pairs, putting_back, ring, stacks)
from tests.test_equivalence import not_comparable

MODULES = (0, ODD, InvalidModule, None)
TWELVE = tuple("abcdefghijkl")
P = ((-1, -1, 0), (-1, 1, 1), (-1, 2, 1), (0, 0, 1))


class Plain:
    """The rules of 14.1 to 14.4 for two modules, told in the plainest way, by their summaries."""

    def __init__(self, first, second):
        self.modules = (first, second)
        self.labels = first[0]
        self.starts = {one[0]: (one[1], two[1]) for one, two in zip(first[2], second[2])}
        self.tables = [{(state, top): summary(module, state, top) for state in range(module[1])
                        for top in ("",) + self.labels} for module in self.modules]
        self.reached = self.reachable()
        self.live = self.living()

    def move(self, side, position, top):
        if position == -1:
            return -1, 0
        told = self.tables[side][(position, top)]
        if told[0] == "never":
            return None
        return (told[1], told[2]) if told[0] == "pop" else (-1, told[3])

    def step(self, pair, top):
        one, two = self.move(0, pair[0], top), self.move(1, pair[1], top)
        if one is None or two is None:
            return None
        return (one[0], two[0]), two[1] - one[1]

    def reachable(self):
        found = set(self.starts.values())
        while True:
            steps = [self.step(pair, label) for pair in found for label in self.labels]
            more = {step[0] for step in steps if step} - found
            if not more:
                return found
            found |= more

    def living(self):
        live = {pair for pair in self.reached if self.step(pair, "")}
        while True:
            more = {pair for pair in self.reached - live for label in self.labels
                    if self.step(pair, label) and self.step(pair, label)[0] in live}
            if not more:
                return live
            live |= more

    def follow(self, pair, word):
        total = 0
        for label in word:
            step = self.step(pair, label)
            if step is None:
                return None, None
            pair, total = step[0], total + step[1]
        return pair, total

    def difference(self, entry, stack):
        pair, total = self.follow(self.starts[entry], stack)
        end = pair and self.step(pair, "")
        return None if not end else total + end[1]

    def accepts(self, value):
        """Whether a value is a paper that has the right form, but for the numbers and pairs in it."""
        if value[0] == "never":
            return not self.live & set(self.starts.values())
        if value[0] == "grows":
            _, entry, u, w, z = value
            pair, _ = self.follow(self.starts[entry], u)
            if not w or pair is None:
                return False
            back, gain = self.follow(pair, w)
            return back == pair and gain >= 1 and self.difference(entry, u + z) is not None
        _, most, entry, stack, triples = value
        numbers = {triple[:2]: triple[2] for triple in triples}
        if sorted(self.live) != [triple[:2] for triple in triples] or self.difference(entry, stack) != most:
            return False
        for pair in self.live:
            if self.step(pair, "") and numbers[pair] < self.step(pair, "")[1]:
                return False
            for step in [self.step(pair, label) for label in self.labels]:
                if step and step[0] in self.live and numbers[pair] < step[1] + numbers[step[0]]:
                    return False
        return all(numbers[pair] <= most for pair in self.starts.values() if pair in self.live)


def make_equivalent(seed, many):
    return [pair for pair in make_pairs(seed, many) if are_equivalent(*pair)]


def speed(size, slow, labels=("a",)):
    """A ring that leaves everywhere, and takes one more tick in so many of its states."""
    module = ring(size, lambda state: True, labels)
    rules = []
    for state, top, target, push in module[4]:
        if top and state < slow:
            rules += [(state, top, size + state, (top,)), (size + state, top, target, ())]
        else:
            rules.append((state, top, target, push))
    return module[:1] + (size + slow,) + module[2:4] + (tuple(sorted(rules)),)


def removing(labels, exits=("low", "out")):
    """Removes all labels, one tick each."""
    rules = ((0, "", "out", ()),) + tuple((0, label, 0, ()) for label in labels)
    return (labels, 1, (("in", 0),), exits, rules)


def replacing():
    """Replaces each of eleven labels by twenty of the next one, and removes the last one."""
    rules = [(0, "", "out", ()), (0, "l", 0, ())]
    rules += [(0, one, 0, (two,) * 20) for one, two in zip(TWELVE, TWELVE[1:])]
    return (TWELVE, 1, (("in", 0),), ("low", "out"), tuple(sorted(rules)))


def replacing_once():
    """Does so with the first label only; the label l tells the end of what is put in its place."""
    rules = [(0, "", "out", ()), (0, "a", 1, ("b",) * 19 + ("l",)), (1, "k", 1, ()), (1, "l", 2, ()), (2, "", "out", ())]
    rules += [(0, label, 2, ()) for label in TWELVE[1:]] + [(2, label, 2, ()) for label in TWELVE]
    rules += [(1, one, 1, (two,) * 20) for one, two in zip(TWELVE[1:], TWELVE[2:-1])]
    return (TWELVE, 3, (("in", 0),), ("low", "out"), tuple(sorted(rules, key=lambda rule: rule[:2])))


class ExamplesTest(unittest.TestCase):
    def test_examples(self):
        self.assertEqual([slowdown(N, M)[:3], slowdown(M, N)[:2], slowdown(D, T)[0], slowdown(T, D)[:2]],
                         [("bound", 1, "in"), ("bound", 0), "grows", ("bound", 0)])
        self.assertEqual([is_slowdown(N, M, ("bound", 1, "in", ("b", "a"), P)),
                          is_slowdown(N, M, ("bound", 2, "in", ("b", "a"), P))], [True, False])
        self.assertEqual([is_slowdown(D, T, ("grows", "in", ("a",), ("a", "a"), ("b",))),
                          is_slowdown(D, T, ("grows", "in", (), ("b",), ()))], [True, False])


class SlowdownTest(unittest.TestCase):
    def test_small_modules(self):
        """The paper against the differences on all stacks of at most six or four labels, found by single steps."""
        kinds = {}
        for first, second in make_equivalent(141, 150):
            for one, two in ((first, second), (second, first)):
                paper = slowdown(one, two)
                self.assertEqual(slowdown(one, two), paper)
                self.assertIs(is_slowdown(one, two, paper), True, (one, two, paper))
                self.assertTrue(Plain(one, two).accepts(paper))
                self.check(one, two, paper)
                kind = paper[0] if paper[0] != "bound" else ("bound", (paper[1] > 0) - (paper[1] < 0))
                kinds[kind] = kinds.get(kind, 0) + 1
        self.assertGreater(min(kinds.get(kind, 0) for kind in ("never", "grows", ("bound", 1), ("bound", 0), ("bound", -1))), 4)

    def check(self, one, two, paper):
        walks = Walks(one, 400), Walks(two, 400)
        told = {}
        for name, _ in one[2]:
            for stack in stacks(one[0], 6 if len(one[0]) == 1 else 4):
                results = [walk.result(name, stack) for walk in walks]
                if None not in results:
                    told[(name, stack)] = results[1][2] - results[0][2]
        if paper[0] == "never":
            self.assertEqual(told, {})
        elif paper[0] == "bound":
            _, most, entry, stack, _ = paper
            self.assertLessEqual(max(told.values(), default=most), most)
            self.assertEqual(result(two, entry, stack)[2] - result(one, entry, stack)[2], most)
        else:
            self.check_growth(one, two, paper)

    def check_growth(self, one, two, paper):
        """The differences for some repetitions rise by one number, also for very many."""
        _, entry, u, w, z = paper
        found = [result(two, entry, u + w * times + z)[2] - result(one, entry, u + w * times + z)[2] for times in range(5)]
        more = found[1] - found[0]
        self.assertGreaterEqual(more, 1)
        self.assertEqual(found, [found[0] + times * more for times in range(5)])
        for times in (10 ** 18, 10 ** 18 + 1):
            blocks = tuple((word, many) for word, many in ((u, 1), (w, times), (z, 1)) if word)
            ticks = [result_of_blocks(module, entry, blocks)[2] for module in (one, two)]
            self.assertEqual(ticks[1] - ticks[0], found[0] + times * more)

    def test_exchanged_modules(self):
        self.assertEqual(slowdown(N, M), ("bound", 1, "in", ("a",), P))
        self.assertEqual(slowdown(M, N)[:4], ("bound", 0, "in", ()))
        self.assertEqual(slowdown(D, D)[:2], ("bound", 0))
        self.assertEqual(slowdown(T, D)[:2], ("bound", 0))
        self.assertEqual(slowdown(putting_back(2, AB), putting_back(2, AB))[:2], ("bound", 0))

    def test_negative_bound(self):
        quick = (AB, 1, (("in", 0),), ("out",), tuple((0, top, "out", (top,) if top else ()) for top in ("",) + AB))
        slow = (AB, 4, (("in", 3),), ("out",), tuple((0, top, "out", (top,) if top else ()) for top in ("",) + AB)
                + tuple((state, top, state - 1, (top,) if top else ()) for state in (1, 2, 3) for top in ("",) + AB))
        self.assertEqual(slowdown(slow, quick)[:2], ("bound", -3))
        self.assertEqual(slowdown(quick, slow)[:2], ("bound", 3))
        self.assertEqual(slowdown(slow, quick)[4], ((-1, -1, 0), (3, 0, -3)))

    def test_never(self):
        for module in (G[:3] + (("out",), G[4][1:]), D[:2] + ((),) + D[3:], (AB, 3, (), (), ()), V[:4] + (V[4][:1],)):
            self.assertEqual(slowdown(module, module), ("never",))
            self.assertIs(is_slowdown(module, module, ("never",)), True)
            self.assertIs(is_slowdown(module, module, ("never", 0)), False)
            self.assertIs(is_slowdown(module, module, ["never"]), False)
        self.assertIs(is_slowdown(D, T, ("never",)), False)
        self.assertIs(is_slowdown(V, V, ("never",)), False)

    def test_entries_that_never_leave(self):
        """They have no live first pair, so nothing is said about them."""
        first = (AB, 2, (("in", 0), ("on", 1)), ("out",), N[4] + ((1, "a", 1, ("a",)),))
        second = (AB, 4, (("in", 0), ("on", 3)), ("out",), M[4])
        paper = slowdown(first, second)
        self.assertEqual(paper, ("bound", 1, "in", ("a",), P))
        self.assertIs(is_slowdown(first, second, ("bound", 1, "on", ("a",), P)), False)

    def test_rings(self):
        for slow, kind in (((0, 0), 0), ((0, 1), None), ((1, 1), 1), ((1, 2), None), ((2, 3), 1), ((3, 5), 0), ((2, 4), None),
                           ((3, 4), 0), ((1, 0), 0), ((2, 2), 0)):
            first, second = speed(3, slow[0]), speed(5, slow[1])
            paper = slowdown(first, second)
            self.assertIs(is_slowdown(first, second, paper), True)
            self.check(first, second, paper)
            if kind is None:
                self.assertEqual(paper[0], "grows")
                self.assertGreater(3 * slow[1], 5 * slow[0])
            else:
                most = max(self.lead(stack, slow) for stack in range(15))
                self.assertEqual(paper[:2], ("bound", most), slow)
                self.assertEqual(len([part for part in paper[4] if part[0] >= 0]), 15)

    def lead(self, length, slow):
        return sum((at % 5 < slow[1]) - (at % 3 < slow[0]) for at in range(length))

    def test_the_best_of_several_moves(self):
        """Two labels promise more than the end; whichever comes first, the one with more is taken."""
        rest = tuple((state, top, state if top else "out", ()) for state in (1, 2) for top in ("",) + AB)
        for many, more, stack in ((10, 5, ("a",)), (5, 10, ("b",)), (1, 0, ("a",)), (0, 0, ())):
            first, second = [(AB, 3, (("in", 0),), ("low", "out"), (
                (0, "", "out", ()), (0, "a", 1, ("a",) * one), (0, "b", 2, ("b",) * two)) + rest) for one, two in ((0, 0), (many, more))]
            paper = slowdown(first, second)
            self.assertEqual(paper[:4], ("bound", max(many, more), "in", stack))
            self.assertIs(is_slowdown(first, second, paper), True)

    def test_eleven_labels(self):
        more = sum(20 ** power for power in range(12)) - 1
        paper = slowdown(removing(TWELVE), replacing())
        self.assertEqual(paper[0], "grows")
        self.assertIs(is_slowdown(removing(TWELVE), replacing(), paper), True)
        self.assertEqual(slowdown(replacing(), removing(TWELVE))[:4], ("bound", 0, "in", ()))
        ticks = [result(module, "in", ("a",))[2] for module in (removing(TWELVE), replacing())]
        self.assertEqual(ticks[1] - ticks[0], more)
        self.check_growth(removing(TWELVE), replacing(), paper)

    def test_a_large_bound(self):
        # One tick for a and for l, and 19 labels b, each of which is twenty labels c, and so on, ten times.
        most = 1 + 19 * sum(20 ** power for power in range(10)) + 1 - 1
        paper = slowdown(removing(TWELVE), replacing_once())
        self.assertEqual(paper[:4], ("bound", most, "in", ("a",)))
        self.assertIs(is_slowdown(removing(TWELVE), replacing_once(), paper), True)
        self.assertIs(is_slowdown(removing(TWELVE), replacing_once(), ("bound", most, "in", ("a", "l", "b"), paper[4])), True)

    def test_large_modules(self):
        first, second = [ring(size, lambda state: True, TWELVE) for size in (100, 97)]
        paper = slowdown(first, second)
        self.assertEqual(paper[:2], ("bound", 0))
        self.assertEqual(len([part for part in paper[4] if part[0] >= 0]), 9700)
        self.assertIs(is_slowdown(first, second, paper), True)
        draw = random.Random(142)
        modules = []
        for size in (100, 99):
            rules = [(state, label, draw.randrange(size), (draw.choice(TWELVE),) * draw.choice([0, 0, 0, 1]))
                     for state in range(size) for label in TWELVE]
            rules += [(state, "", "out", ()) for state in range(size)]
            modules.append((TWELVE, size, (("in", 0),), ("out",), tuple(sorted(rules))))
        one, two = modules
        if are_equivalent(one, two):
            paper = slowdown(one, two)
            self.assertIs(is_slowdown(one, two, paper), True)
        slow, quick = speed(50, 50, TWELVE), speed(49, 49, TWELVE)
        paper = slowdown(slow, quick)
        self.assertEqual(paper[:2], ("bound", 0))
        self.assertIs(is_slowdown(slow, quick, paper), True)
        self.assertEqual(slowdown(slow, ring(100, lambda state: True, TWELVE))[:2], ("bound", 0))
        self.assertEqual(slowdown(ring(100, lambda state: True, TWELVE), slow)[0], "grows")


class PaperTest(unittest.TestCase):
    def test_changed_papers(self):
        """Papers with a part changed, judged by the rules of 14.2 to 14.4."""
        draw = random.Random(143)
        accepted = refused = 0
        for first, second in make_equivalent(144, 120):
            plain = Plain(first, second)
            paper = slowdown(first, second)
            for value in self.variants(draw, plain, paper):
                good = plain.accepts(value)
                self.assertIs(is_slowdown(first, second, value), good, (first, second, value))
                accepted += good and value != paper
                refused += not good
        self.assertGreater(accepted, 500)
        self.assertGreater(refused, 1000)

    def variants(self, draw, plain, paper):
        yield ("never",)
        words = [tuple(draw.choice(plain.labels) for _ in range(draw.randrange(5))) for _ in range(12)]
        for entry in plain.starts:
            for u, w, z in itertools.product(words[:3], words[3:8], words[8:10]):
                yield ("grows", entry, u, w, z)
        if paper[0] == "grows":
            _, entry, u, w, z = paper
            yield ("grows", entry, u + w, w, z)
            yield ("grows", entry, u, w + w, z)
            yield ("grows", entry, u + w[:1], w[1:] + w[:1], w[1:] + z)
            for word in words:
                yield ("grows", entry, u, w, word)
                yield ("grows", entry, u, word, z)
                yield ("grows", entry, word, w, z)
        if paper[0] == "bound":
            _, most, entry, stack, triples = paper
            for name in plain.starts:
                for word in words + [stack]:
                    yield ("bound", most, name, word, triples)
            for at, triple in enumerate(triples):
                for more in (-1, 1, 7):
                    yield ("bound", most, entry, stack, triples[:at] + (triple[:2] + (triple[2] + more,),) + triples[at + 1:])
                yield ("bound", most, entry, stack, triples[:at] + triples[at + 1:])
                yield ("bound", most, entry, stack, triples[:at] + triples[at:at + 1] * 2 + triples[at + 1:])
            for pair in sorted(itertools.product(range(-1, plain.modules[0][1]), range(-1, plain.modules[1][1]))):
                if pair not in plain.live:
                    yield ("bound", most, entry, stack, tuple(sorted(triples + (pair + (0,),))))
            for more in (-1, 1):
                yield ("bound", most + more, entry, stack, triples)
                yield ("bound", most + more, entry, stack, tuple(triple[:2] + (triple[2] + more,) for triple in triples))

    def test_bound(self):
        good = ("bound", 1, "in", ("b", "a"), P)
        for value in (good, good[:3] + (("a",), P), good[:3] + (("b",), P), good[:3] + (("a", "a", "b", "a", "b"), P),
                      good[:4] + (((-1, -1, 0), (-1, 1, 1), (-1, 2, 1), (0, 0, 1)),)):
            self.assertIs(is_slowdown(N, M, value), True, value)
        raised = ((-1, -1, 0), (-1, 1, 1), (-1, 2, 1))
        wrong = [good[:4] + (P[::-1],), good[:4] + (P[1:],), good[:4] + (raised,), good[:4] + (raised + ((0, 0, 2),),),
                 good[:4] + (raised + ((0, 0, 0),),), good[:4] + (P[:1] + ((-1, 1, 0),) + P[2:],), good[:4] + (P + ((0, 1, 1),),),
                 good[:4] + (((-1, -1, False),) + P[1:],), good[:4] + (raised + ((0, 0, True),),), good[:4] + (raised + ((0, False, 1),),),
                 good[:4] + (raised + ((False, 0, 1),),), good[:4] + (P[:1] + ((-1, True, 1),) + P[2:],), good[:4] + (list(P),),
                 good[:4] + (P[:3] + ([0, 0, 1],),), good[:4] + (P[:3] + ((0, 0),),), good[:4] + (P[:3] + ((0, 0, 1, 0),),),
                 good[:4] + (P[:3] + ((0, 0, "1"),),), good[:4] + (P[:3] + ((0, 0, None),),), good[:4] + (P[:3] + (None,),), good[:4] + (None,),
                 good[:4] + ((),), good[:4] + ({},), good[:3] + ((), P), good[:3] + (["b", "a"], P), good[:3] + (("c",), P), good[:3] + ("b", P),
                 good[:3] + (None, P), good[:2] + ("out", ("b", "a"), P), good[:2] + (["in"], ("b", "a"), P), good[:2] + (0, ("b", "a"), P),
                 good[:2] + ({}, ("b", "a"), P), ("bound", True) + good[2:], ("bound", 0) + good[2:], ("bound", "1") + good[2:], ("bound", None) + good[2:],
                 ("bound", 2) + good[2:4] + (tuple(part[:2] + (part[2] + 1,) for part in P),), ("grows",) + good[1:], good[1:], good[:4],
                 good + (0,), list(good), ("never",), (["bound"],) + good[1:], ({},) + good[1:]]
        for value in tuple(wrong) + ODD:
            self.assertIs(is_slowdown(N, M, value), False, value)

    def test_raised_potentials(self):
        """Of two entries, one has a smaller greatest difference, so its potentials may be greater than they must be."""
        first = (AB, 1, (("in", 0), ("on", 0)), ("out",), N[4])
        second = (AB, 4, (("in", 0), ("on", 3)), ("out",), M[4] + tuple((3,) + rule[1:] for rule in N[4]))
        good = ("bound", 1, "in", ("a",), ((-1, -1, 0), (-1, 1, 1), (-1, 2, 1), (0, 0, 1), (0, 3, 0)))
        self.assertEqual(slowdown(first, second), good)
        for number, told in ((-1, False), (0, True), (1, True), (2, False)):
            self.assertIs(is_slowdown(first, second, good[:4] + (good[4][:4] + ((0, 3, number),),)), told)
        # The pair behind no entry can be raised as far as the others allow it.
        for number, told in ((0, False), (1, True), (2, False)):
            value = good[:4] + (good[4][:1] + ((-1, 1, number),) + good[4][2:],)
            self.assertIs(is_slowdown(first, second, value), told)
        self.assertIs(is_slowdown(first, second, ("bound", 0, "on", ("a",)) + good[4:]), False)

    def test_grows(self):
        for value in (("grows", "in", (), ("a",), ()), ("grows", "in", ("a",), ("a",), ("b",)), ("grows", "in", (), ("a",) * 7, ("b", "a")),
                      ("grows", "in", ("a",) * 5, ("a", "a"), ("a", "b", "a"))):
            self.assertIs(is_slowdown(D, T, value), True, value)
            for at in range(1, 5):
                for other in ODD + ("out", "a", ("a", "c"), ["a"], (0,), (True,)):
                    self.assertIs(is_slowdown(D, T, value[:at] + (other,) + value[at + 1:]), False, (value, at, other))
            self.assertIs(is_slowdown(T, D, value), False)
            self.assertIs(is_slowdown(D, T, value + ((),)), False)
            self.assertIs(is_slowdown(D, T, value[:4]), False)
            self.assertIs(is_slowdown(D, T, list(value)), False)
            self.assertIs(is_slowdown(D, T, ("growth",) + value[1:]), False)
        for value in (("grows", "in", (), (), ()), ("grows", "in", (), ("b",), ()), ("grows", "in", ("b",), ("a",), ()), ("grows", "in", (), ("a", "b"), ())):
            self.assertIs(is_slowdown(D, T, value), False, value)
        ring_one, ring_two = speed(3, 0), speed(5, 1)
        for many in range(1, 31):
            self.assertIs(is_slowdown(ring_one, ring_two, ("grows", "in", (), ("a",) * many, ())), many % 15 == 0)
        # Around the rings as much is lost as is gained.
        self.assertIs(is_slowdown(speed(3, 3), speed(5, 5), ("grows", "in", (), ("a",) * 15, ())), False)
        self.assertIs(is_slowdown(speed(3, 1), speed(5, 2), ("grows", "in", ("a",), ("a",) * 15, ())), True)
        self.assertIs(is_slowdown(speed(3, 1), speed(5, 1), ("grows", "in", (), ("a",) * 15, ())), False)

    def test_a_rest_on_which_neither_leaves(self):
        first = (AB, 1, (("in", 0),), ("low", "out"), ((0, "a", 0, ()), (0, "b", "out", ())))
        second = (AB, 2, (("in", 0),), ("low", "out"), ((0, "a", 1, ("a",)), (0, "b", "out", ()), (1, "a", 0, ())))
        self.assertEqual(slowdown(first, second)[0], "grows")
        for rest, told in (((), False), (("b",), True), (("a",), False), (("a", "b", "a"), True)):
            self.assertIs(is_slowdown(first, second, ("grows", "in", (), ("a",), rest)), told)


class ErrorsTest(unittest.TestCase):
    def test_errors(self):
        for call, more in ((slowdown, ()), (is_slowdown, (("never",),)), (is_slowdown, (None,))):
            check_errors(self, call, dict(enumerate((D, T) + more)), [MODULES, (1, ODD + not_comparable(D), InvalidModule, None)])

    def test_modules_that_are_not_equivalent(self):
        pairs = [(C, N), (N, C)] + [pair for pair in make_pairs(145, 60) if not are_equivalent(*pair)]
        self.assertGreater(len(pairs), 30)
        for first, second in pairs:
            before = copy.deepcopy((first, second))
            for call, more in ((slowdown, ()), (is_slowdown, (("never",),)), (is_slowdown, (["x"],))):
                with self.assertRaises(NotEquivalent) as caught:
                    call(first, second, *more)
                self.assertIs(type(caught.exception), NotEquivalent)
                self.assertEqual(caught.exception.stack, separating_stack(first, second)[1])
            self.assertEqual((first, second), before)
        self.assertEqual(slowdown(N, M)[0], "bound")

    def test_nothing_is_changed(self):
        paper = ("bound", 1, "in", ("b", "a"), P)
        before = copy.deepcopy((N, M, paper))
        self.assertEqual([is_slowdown(N, M, paper), is_slowdown(N, M, paper)], [True, True])
        self.assertEqual(slowdown(N, M), slowdown(N, M))
        self.assertEqual((N, M, paper), before)


if __name__ == "__main__":
    unittest.main()
