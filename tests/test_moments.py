import random
import unittest

from piledoors.errors import InvalidModule, InvalidNumber, InvalidStack, UnknownEntry
from piledoors.runs import moments
from piledoors.runs.moments import fate, is_fate, moment
from piledoors.results.results import result
from piledoors.stacks.blocks import blocks_length, is_blocks, label_at, spelled
from tests.samples import AB, C, D, G, N, ODD, SAMPLES, chain, check_errors, make_random_modules, stacks, walk
from tests.test_summaries import TWELVE, doubling

FAR = 10 ** 30
MODULES = (0, ODD, InvalidModule, None)
ENTRIES = (1, ODD + ("out", 0, ("in",)), UnknownEntry, "name")
STACKS = (2, ODD + ("a", ["a", "b"], ("a", "c")), InvalidStack, None)
# On the empty stack, 0 puts two labels on it, which are gone after three more ticks; a round has five.
EMPTYING = (AB, 3, (("in", 0), ("on", 1)), (), (
    (0, "", 1, ("b", "a")), (1, "", 0, ()), (1, "a", 1, ()), (1, "b", 2, ("a", "a")), (2, "a", 1, ())))
# Each round takes four ticks and leaves three labels below the a; it begins behind a lead of two ticks.
GROWING = (AB, 5, (("in", 3),), ("out",), (
    (0, "a", 1, ("b", "a")), (1, "a", 2, ("a",)), (1, "b", 1, ("a", "b")), (2, "a", 0, ("a", "b")),
    (3, "a", 4, ("a",)), (3, "b", 3, ()), (4, "a", 0, ("a", "b"))))


def moment_by_walking(module, state, stack, tick):
    """The moment with the stack written out."""
    end, seen = walk(module, state, stack, tick + 1)
    if end[0] == "exit" and len(seen) <= tick:
        return ("out", end[1], end[2], len(seen))
    if end[0] == "stuck":
        return ("stuck",) + seen[-1] + (len(seen) - 1,)
    return ("in",) + seen[tick]


def with_stack(module, told):
    """A moment with its blocks written out."""
    if told[0] == "out":
        return told
    return told[:2] + (spelled(module[0], told[2]),) + told[3:]


def fate_by_walking(module, state, stack, limit):
    """The fate without the paper of an endless run; a run longer than the limit is taken for endless."""
    end, seen = walk(module, state, stack, limit)
    if end[0] == "exit":
        return ("leaves", end[1], end[2], len(seen))
    return ("stuck",) + seen[-1] + (len(seen) - 1,) if end[0] == "stuck" else ("endless",)


def is_endless_by_walking(module, state, stack, value, rounds, limit):
    """Whether so many rounds of the run are as this paper says, and its stack is high enough until the limit."""
    _, start, period, goal, top, growth, rest = value
    _, seen = walk(module, state, stack, limit)
    for k in range(rounds):
        if seen[start + k * period] != (goal, ((top,) if top else ()) + growth * k + rest):
            return False
    if not top:
        return growth == () and rest == ()
    return all(len(after) > len(rest) and after[len(after) - len(rest):] == rest for _, after in seen[start:])


class ExamplesTest(unittest.TestCase):
    def test_examples(self):
        self.assertEqual(moments.MAX_TICK, 10 ** 30)
        self.assertEqual(moment(D, "in", ("a", "b"), 10 ** 30), ("out", "out", ("b",), 2))
        word, state, blocks = moment(G, "in", ("a",), 10 ** 20)
        self.assertEqual([word, state, blocks_length(AB, blocks), label_at(AB, blocks, 10 ** 20)],
                         ["in", 0, 200000000000000000001, "a"])
        self.assertEqual([fate(D, "in", ("a",)), fate(G, "in", ("b",))],
                         [("leaves", "low", (), 2), ("stuck", 0, ("b",), 0)])
        self.assertEqual([is_fate(G, "in", ("a",), ("endless", 0, 1, 0, "a", ("b", "a"), ())),
                          is_fate(G, "in", ("a",), ("endless", 1, 1, 0, "a", ("b", "a"), ()))], [True, False])


class MomentTest(unittest.TestCase):
    def check(self, module, name, state, stack, tick):
        told = moment(module, name, stack, tick)
        if told[0] != "out":
            self.assertIs(is_blocks(module[0], told[2]), True)
        self.assertEqual(with_stack(module, told), moment_by_walking(module, state, stack, tick), (module, stack, tick))
        return told[0]

    def test_all_ticks_of_small_modules(self):
        kinds = set()
        for module in SAMPLES + (EMPTYING, GROWING) + tuple(make_random_modules(21, 50, AB, 3, 3)):
            for name, state in module[2]:
                for stack in stacks(AB, 2) + [("a", "b", "b", "a", "a")]:
                    for tick in list(range(12)) + [19, 37, 60]:
                        kinds.add(self.check(module, name, state, stack, tick))
        self.assertEqual(kinds, {"in", "stuck", "out"})

    def test_the_last_ticks(self):
        for module in make_random_modules(22, 60, AB, 3, 2):
            for name, state in module[2]:
                for stack in stacks(AB, 3):
                    told = fate_by_walking(module, state, stack, 600)
                    if told[0] == "endless":
                        continue
                    for tick in (told[3] - 2, told[3] - 1, told[3], told[3] + 1):
                        if tick >= 0:
                            self.check(module, name, state, stack, tick)
                    last = ("out",) + told[1:] if told[0] == "leaves" else told
                    for tick in (told[3], told[3] + 100, FAR):
                        self.assertEqual(with_stack(module, moment(module, name, stack, tick)), last)

    def test_stacks_of_many_labels(self):
        stack = ("a",) * 3000 + ("b",)
        for tick in (0, 1, 2999, 3000):
            self.assertEqual(with_stack(D, moment(D, "in", stack, tick)), ("in", 0, stack[tick:]))
        for tick in (3001, 3002, FAR):
            self.assertEqual(moment(D, "in", stack, tick), ("out", "out", ("b",), 3001))
        for tick in (0, 1000, 2999, 3000, 3001, FAR):
            told = ("in", 0, stack[tick:]) if tick < 3000 else ("stuck", 0, stack[3000:], 3000)
            self.assertEqual(with_stack(D, moment(D[:4] + (D[4][1:2],), "in", stack, tick)), told)
        stack = ("a", "b") * 1500
        for tick in (0, 1, 2, 3, 4, 5999, 6000):
            self.check(C, "in", 0, stack, tick)

    def test_within_long_pops(self):
        module = doubling()
        for tick in (0, 1, 2, 5, 12, 13, 14, 33, 500):
            self.check(module, "in", 0, ("a", "b"), tick)
        _, _, ticks = result(module, "in", ("a", "b"))
        self.assertGreater(ticks, 20 ** 11)
        self.assertEqual(moment(module, "in", ("a", "b"), ticks - 1), ("in", 0, ()))
        self.assertEqual(moment(module, "in", ("a", "b"), ticks - 2), ("in", 0, ((("l",), 1),)))
        self.assertEqual(moment(module, "in", ("a", "b"), ticks - 22), ("in", 0, ((("k",), 1),)))
        self.assertEqual(moment(module, "in", ("a", "b"), ticks), ("out", "out", (), ticks))

    def test_endless_on_the_empty_stack(self):
        _, seen = walk(EMPTYING, 0, (), 60)
        period = [at for at in range(1, 60) if seen[at] == seen[0]][0]
        for name, lead in (("in", 0), ("on", 1)):
            _, seen = walk(EMPTYING, dict(EMPTYING[2])[name], (), 60)
            for tick in (FAR, FAR - 1, FAR - 2, FAR - 3, 10 ** 20, 12345):
                told = ("in",) + seen[lead + (tick - lead) % period]
                self.assertEqual(with_stack(EMPTYING, moment(EMPTYING, name, (), tick)), told)

    def test_endless_and_growing(self):
        for stack in (("a", "b"), ("b", "a"), ("b", "b", "a", "a", "b")):
            rest = stack[stack.index("a") + 1:]
            start = stack.index("a") + 2
            end, seen = walk(GROWING, 3, stack, 40)
            self.assertEqual((end, seen[start]), (("open",), (0, ("a", "b") + rest)))
            for tick in (FAR, FAR - 1, FAR - 2, 10 ** 6):
                rounds, more = divmod(tick - start, 4)
                _, near = seen[start + more]
                growth = seen[start + 4][1]
                growth = growth[1:len(growth) - len(rest) - 1]
                word, state, blocks = moment(GROWING, "in", stack, tick)
                self.assertEqual((word, state), ("in", seen[start + more][0]))
                self.assertEqual(blocks_length(AB, blocks), len(near) + rounds * len(growth))
                height = len(near) - len(rest) - 1
                for at in range(height):
                    self.assertEqual(label_at(AB, blocks, at), near[at])
                for at in list(range(9)) + [len(growth) * rounds - 1]:
                    self.assertEqual(label_at(AB, blocks, height + at), growth[at % len(growth)])
                for at in range(1 + len(rest)):
                    self.assertEqual(label_at(AB, blocks, height + len(growth) * rounds + at), (("b",) + rest)[at])

    def test_far_moments_follow_from_near_ones(self):
        draw = random.Random(23)
        many = 0
        for module in make_random_modules(24, 150, AB, 3, 3):
            for name, state in module[2]:
                for stack in stacks(AB, 2):
                    told = fate(module, name, stack)
                    if told[0] != "endless":
                        continue
                    many += 1
                    _, start, period, _, top, growth, rest = told
                    tick = draw.randrange(10 ** 20, FAR)
                    rounds, more = divmod(tick - start, period)
                    _, goal, near = moment_by_walking(module, state, stack, start + more)
                    word, there, blocks = moment(module, name, stack, tick)
                    self.assertEqual((word, there), ("in", goal))
                    if not top:
                        self.assertEqual(spelled(AB, blocks), near)
                        continue
                    height = len(near) - len(rest)
                    self.assertEqual(blocks_length(AB, blocks), len(near) + rounds * len(growth))
                    self.assertEqual([label_at(AB, blocks, at) for at in range(height)], list(near[:height]))
                    if growth:
                        told = [label_at(AB, blocks, height + at) for at in range(9)]
                        self.assertEqual(told, [growth[at % len(growth)] for at in range(9)])
                    bottom = height + rounds * len(growth)
                    self.assertEqual([label_at(AB, blocks, bottom + at) for at in range(len(rest) + 1)], list(rest) + [""])
        self.assertGreater(many, 100)

    def test_chains(self):
        module, row = chain(1200, (0, ("a",)))
        for tick in (0, 1, 1199, 1200, FAR):
            state, label = row[tick % 1200]
            self.assertEqual(with_stack(module, moment(module, "in", ("a", "b"), tick)), ("in", state, (label, "b")))
        module, row = chain(1300, ("out", ("a", "b")))
        self.assertEqual(moment(module, "in", (), 1299)[:2], ("in", row[1299][0]))
        self.assertEqual(moment(module, "in", (), 1300), ("out", "out", ("a", "b"), 1300))

    def test_errors(self):
        numbers = ("tick", (FAR + 1, -1, True, False, None, "3", [3], (3,), {}, 10 ** 39), InvalidNumber, "value")
        check_errors(self, moment, {0: D, 1: "in", 2: ("a",), 3: 0}, [MODULES, ENTRIES, STACKS, (3,) + numbers[1:]])
        check_errors(self, fate, {0: D, 1: "in", 2: ("a",)}, [MODULES, ENTRIES, STACKS])
        check_errors(self, is_fate, {0: D, 1: "in", 2: ("a",), 3: None}, [MODULES, ENTRIES, STACKS])
        self.assertEqual(moment(N, "in", ("a",), FAR), ("out", "out", ("a",), 1))
        self.assertEqual(moment(N, "in", ("a",), 0), ("in", 0, ((("a",), 1),)))


class FateTest(unittest.TestCase):
    def test_small_modules(self):
        kinds = set()
        for module in SAMPLES + (EMPTYING, GROWING) + tuple(make_random_modules(25, 100, AB, 3, 3)):
            for name, state in module[2]:
                for stack in stacks(AB, 3):
                    told = fate(module, name, stack)
                    kinds.add((told[0], told[0] == "endless" and told[4] == "", told[0] == "endless" and len(told[5]) > 1))
                    walked = fate_by_walking(module, state, stack, 600)
                    if told[0] == "endless":
                        self.assertEqual(walked, ("endless",))
                        limit = told[1] + 4 * told[2]
                        self.assertIs(is_endless_by_walking(module, state, stack, told, 4, limit), True, (module, stack))
                    else:
                        self.assertEqual(told, walked)
                    self.assertIs(is_fate(module, name, stack, told), True)
        self.assertEqual(len(kinds), 5)

    def test_every_endless_paper(self):
        """All papers with small numbers, whose words stand at the tops of the stacks that are walked."""
        for module in (G, EMPTYING, GROWING) + tuple(make_random_modules(26, 60, AB, 2, 2)):
            for name, state in module[2]:
                for stack in ((), ("a",), ("b", "a")):
                    if fate(module, name, stack)[0] == "endless":
                        self.check_papers(module, name, state, stack)

    def check_papers(self, module, name, state, stack):
        _, seen = walk(module, state, stack, 60)
        accepted = 0
        for start in range(8):
            goal, height = seen[start][0], len(seen[start][1])
            top = seen[start][1][:1]
            rest = seen[start][1][1:]
            for period in range(1, 9):
                after = seen[start + period][1]
                growth = after[1:len(after) - len(rest)]
                value = ("endless", start, period, goal, top[0] if top else "", growth, rest)
                # The run repeats what it does between two times with the same head, if it does not come below it.
                told = seen[start + period][0] == goal and after[:1] == top and after[len(after) - len(rest):] == rest
                told = told and (len(after) >= height if top else not after)
                told = told and (not top or all(len(one) >= height for _, one in seen[start:start + period]))
                self.assertIs(is_fate(module, name, stack, value), told, (module, stack, value))
                accepted += told
        self.assertGreater(accepted, 0, (module, stack))

    def test_later_and_longer_papers(self):
        for stack in (("a",), ("a", "b")):
            rest = stack[1:]
            for start in (0, 1, 7):
                for period in (1, 2, 5):
                    value = ("endless", start, period, 0, "a", ("b", "a") * period, ("b", "a") * start + rest)
                    self.assertIs(is_fate(G, "in", stack, value), True)
                    self.assertIs(is_fate(G, "in", stack, value[:2] + (period + 1,) + value[3:]), False)
                    self.assertIs(is_fate(G, "in", stack, value[:1] + (start + 1,) + value[2:]), False)
        _, seen = walk(EMPTYING, 0, (), 60)
        period = [at for at in range(1, 60) if seen[at] == seen[0]][0]
        for rounds in (1, 3, 10 ** 30):
            for start in (0, period, 10 ** 35 * period):
                value = ("endless", start, rounds * period, 0, "", (), ())
                self.assertIs(is_fate(EMPTYING, "in", (), value), True)
                self.assertIs(is_fate(EMPTYING, "in", (), value[:2] + (rounds * period + 1,) + value[3:]), False)
                self.assertIs(is_fate(EMPTYING, "in", (), value[:1] + (start + 1,) + value[2:]), False)
                self.assertIs(is_fate(EMPTYING, "in", (), value[:3] + (1,) + value[4:]), False)

    def test_a_stack_that_comes_back_has_no_label_paper(self):
        """On the empty stack the same head with a label comes again, but the label is gone in between."""
        _, seen = walk(EMPTYING, 0, (), 60)
        period = [at for at in range(1, 60) if seen[at] == seen[0]][0]
        start = [at for at in range(60) if seen[at][1]][0]
        state, stack = seen[start]
        self.assertEqual(seen[start + period], seen[start])
        value = ("endless", start, period, state, stack[0], (), stack[1:])
        self.assertIs(is_fate(EMPTYING, "in", (), value), False)

    def test_one_part_changed(self):
        module = GROWING
        good = fate(module, "in", ("a", "b"))
        self.assertEqual(good[0], "endless")
        self.assertIs(is_fate(module, "in", ("a", "b"), good), True)
        wrong = [good[:1], good[:6], good + ((),), list(good), ("leaves",) + good[1:], ("stuck",) + good[1:], good[1:]]
        for at, parts in ((1, (-1, True, False, None, "0", 10 ** 39, good[1] + 1)), (2, (0, -3, True, None, 2, 4, 10 ** 39)),
                          (3, (True, False, -1, 5, 100, None, "0", good[3] + 1)), (4, ("", "b", "c", None, 0, ("a",), ["a"])),
                          (5, ((), None, list(good[5]), good[5][::-1], good[5] + ("a",), good[5] * 2, ("c",), "ab", ("",))),
                          (6, ((), None, list(good[6]), good[6] + ("a",), good[6][1:], ("c",), ("",), "b")),
                          (0, ("Endless", None, True))):
            for part in parts:
                if part != good[at] or isinstance(part, bool):
                    wrong.append(good[:at] + (part,) + good[at + 1:])
        for value in wrong + list(ODD):
            self.assertIs(is_fate(module, "in", ("a", "b"), value), False, value)
        for value in (("endless", True, 1, 0, "a", ("b", "a"), ("b", "a")), ("endless", 0, True, 0, "a", ("b", "a"), ()),
                      ("endless", 0, 1, False, "a", ("b", "a"), ()), ("endless", False, 1, 0, "a", ("b", "a"), ())):
            self.assertIs(is_fate(G, "in", ("a",), value), False, value)
        self.assertIs(is_fate(G, "in", ("a",), ("endless", 1, 1, 0, "a", ("b", "a"), ("b", "a"))), True)

    def test_other_fates_have_one_paper(self):
        for module, stack, told in ((D, ("a",), ("leaves", "low", (), 2)), (N, ("b", "a"), ("leaves", "out", ("b", "a"), 1)),
                                    (G, ("b", "a"), ("stuck", 0, ("b", "a"), 0)),
                                    (D[:4] + (D[4][:2],), ("a", "b"), ("stuck", 0, ("b",), 1))):
            self.assertEqual(fate(module, "in", stack), told)
            self.assertIs(is_fate(module, "in", stack, told), True)
            wrong = [told[:-1], told + (0,), list(told), told[:-1] + (told[-1] + 1,), told[:-1] + (str(told[-1]),),
                     told[:2] + (told[2] + ("a",),) + told[3:], told[:2] + (list(told[2]),) + told[3:], ("endless",) + told[1:],
                     ("endless", 0, 1, 0, "a", (), ()), ("endless", 0, 1, 0, "", (), ()), ("leaves", "out", (), 1),
                     ("stuck", 0, (), 0), told[:1] + ("other",) + told[2:], told[:1] + (True,) + told[2:]]
            if told[-1] in (0, 1):
                wrong.append(told[:-1] + (bool(told[-1]),))
            if told[0] == "stuck":
                wrong.append(("stuck", False) + told[2:])
            for value in wrong + list(ODD):
                self.assertIs(is_fate(module, "in", stack, value), False, value)

    def test_large_numbers(self):
        module, row = chain(1200, (0, ("a", "b")))
        told = fate(module, "in", ("a", "c"))
        self.assertEqual(told, ("endless", 0, 1200, 0, "a", ("b",), ("c",)))
        # A round takes about 20 ** 11 ticks: twelve labels that are replaced, and then the first one again.
        labels = doubling()[0]
        rules = tuple(rule for rule in doubling()[4] if rule[1] != "a") + ((1, "l", 0, ("b", "a")),)
        rules = tuple(sorted(rules + ((0, "a", 0, ("b", "b", "a", "l")),)))
        module = (labels, 2, (("in", 0),), ("out",), rules)
        told = fate(module, "in", TWELVE)
        self.assertEqual(told[0], "endless")
        self.assertGreater(told[2], 20 ** 10)
        self.assertEqual(told[3:6], (0, "a", ("l",)))
        for start, period in ((told[1], told[2]), (told[1], 10 ** 39 * told[2])):
            growth = ("l",) * (period // told[2]) if period == told[2] else ("l",)
            self.assertIs(is_fate(module, "in", TWELVE, ("endless", start, period) + told[3:5] + (growth, told[6])),
                          period == told[2])
        word, state, blocks = moment(module, "in", TWELVE, FAR)
        self.assertEqual((word, blocks_length(labels, blocks) > FAR // (told[2] + 1)), ("in", True))


if __name__ == "__main__":
    unittest.main()
