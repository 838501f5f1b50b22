import random
import unittest

from piledoors.errors import InvalidInterface, InvalidModule, InvalidStack, UnknownEntry
from piledoors.interfaces.interfaces import interface, interface_result, is_interface
from piledoors.interfaces.settled import settled
from tests.samples import (AB, C, D, G, M, N, ODD, SAMPLES, V, chain, check_errors, make_keeping_modules,
                           make_random_modules, moved, putting_back, stacks, walk_result, with_copy, with_slower_rule,
                           without_ticks)

MODULES = (0, ODD, InvalidModule, None)
# No module has these: ticks below 0, entries that leave at once, more ticks for less.
STRANGE = (AB, ("low", "out"), True, (("a", ("exit", "out", ("b",), -3)), ("b", ("class", 0, -10 ** 30)), ("c", ("never",))), (
    (("exit", "low", (), 0), ("class", 1, -7), ("exit", "out", (), -8)),
    (("never",), ("exit", "out", ("a",), 0), ("class", 0, 5))))


def make_cases():
    """Modules, each with a limit for the steps of a run that does not go on for ever."""
    cases = [(module, 300) for module in SAMPLES + (V, putting_back(2, AB))]
    cases += [(module, 500) for module in make_random_modules(41, 80, AB, 3, 2) + make_random_modules(42, 40, ("a",), 4, 2)]
    return cases + [(module, 300) for module in make_keeping_modules(43, 80)]


def class_results(told, number, all_stacks):
    """The results of a class of an interface on some stacks, found by going through its rows."""
    labels, _, _, _, classes = told
    found = []
    for stack in all_stacks:
        outcome, gone, ticks = ("class", number, 0), 0, 0
        while outcome[0] == "class":
            ticks += outcome[2]
            outcome = classes[outcome[1]][labels.index(stack[gone]) + 1 if gone < len(stack) else 0]
            gone += 1
        found.append(None if outcome[0] == "never" else (outcome[1], outcome[2] + stack[gone:], ticks + outcome[3]))
    return found


class ExamplesTest(unittest.TestCase):
    def test_examples(self):
        self.assertEqual(interface(D), (("a", "b"), ("low", "out"), False, (("in", ("class", 0, 0)),), (
            (("exit", "low", (), 0), ("class", 0, 0), ("exit", "out", ("b",), 0)),)))
        self.assertEqual([interface(N)[3], interface(M)[3], interface(N) == interface(M)],
                         [(("in", ("exit", "out", (), 0)),), (("in", ("exit", "out", (), 0)),), True])
        self.assertEqual(interface(N, clock=True)[3], (("in", ("exit", "out", (), 1)),))
        self.assertEqual(interface(M, clock=True)[3:], ((("in", ("class", 0, 1)),), (
            (("exit", "out", (), 0), ("exit", "out", ("a",), 1), ("exit", "out", ("b",), 1)),)))
        keeping = (("a",), ("out",), False, (("in", ("class", 0, 0)),), ((("exit", "out", (), 0), ("exit", "out", ("a",), 0)),))
        self.assertEqual([is_interface(interface(M, clock=True)), is_interface(keeping)], [True, False])
        self.assertEqual([interface_result(interface(M, clock=True), "in", ("b", "a")),
                          interface_result(interface(M), "in", ("b", "a"))], [("out", ("b", "a"), 2), ("out", ("b", "a"), 0)])


class WalkedTest(unittest.TestCase):
    def test_results(self):
        kinds = set()
        for module, limit in make_cases():
            with_clock = interface(module, clock=True)
            without = interface(module)
            self.assertEqual((with_clock[2], without[2]), (True, False))
            self.assertIs(is_interface(with_clock) and is_interface(without), True)
            for name, state in module[2]:
                for stack in stacks(module[0], 4):
                    told = walk_result(module, state, stack, limit)
                    self.assertEqual(interface_result(with_clock, name, stack), told, (module, name, stack))
                    self.assertEqual(interface_result(without, name, stack), without_ticks(told), (module, name, stack))
                outcomes = [dict(told[3])[name] for told in (with_clock, without)]
                kinds.add((outcomes[0][0], outcomes[1][0]))
                for outcome, clock in zip(outcomes, (True, False)):
                    claim = settled(module, state, clock=clock)
                    self.assertEqual(outcome[0] == "class" if claim is None else outcome == claim, True)
        self.assertEqual(kinds, {("class", "class"), ("class", "exit"), ("exit", "exit"), ("never", "never")})

    def test_form(self):
        negative = 0
        for module, _ in make_cases():
            for clock in (False, True):
                told = interface(module, clock=clock)
                self.assertEqual(told[:3], (module[0], module[3], clock))
                self.assertEqual([name for name, _ in told[3]], [name for name, _ in module[2]])
                self.check_classes(told)
                outcomes = [outcome for row in told[4] for outcome in row if outcome[0] != "never"]
                if clock:
                    negative += len([outcome for outcome in outcomes if outcome[-1] < 0])
                else:
                    self.assertEqual({outcome[-1] for outcome in outcomes} | {0}, {0})
        self.assertGreater(negative, 0)

    def check_classes(self, told):
        """Checks by results that the classes are those of 8.1 to 8.6."""
        labels, _, clock, entries, classes = told
        met = [outcome[1] for _, outcome in entries if outcome[0] == "class"]
        for number in range(len(classes)):
            met += [outcome[1] for outcome in classes[number] if outcome[0] == "class"]
        self.assertEqual(list(dict.fromkeys(met)), list(range(len(classes))))
        short = stacks(labels, 2 * len(classes) if len(labels) == 1 else min(2 * len(classes), 6))
        all_results = [class_results(told, number, short) for number in range(len(classes))]
        self.assertEqual(len(set(tuple(results) for results in all_results)), len(classes))
        for results in all_results:
            leaving = [one for one in results if one is not None]
            self.assertEqual(leaving[0][2], 0)
            if len(leaving) == len(results):
                word = leaving[0][1]
                kept = [one[:2] == (leaving[0][0], word + stack) for one, stack in zip(results, short)]
                self.assertFalse(all(kept) and (not clock or {one[2] for one in results} == {0}))

    def test_the_same_results(self):
        """States in another order and copies change nothing; a slower rule shows only with clock."""
        draw = random.Random(44)
        slower = 0
        for module, _ in make_cases():
            order = list(range(module[1]))
            draw.shuffle(order)
            turned = moved(module, order)
            copied = with_copy(module, draw)
            copied = with_copy(copied, draw)
            for clock in (False, True):
                told = interface(module, clock=clock)
                self.assertEqual(interface(turned, clock=clock), told)
                self.assertEqual(interface(copied, clock=clock), told)
            slow = with_slower_rule(module, draw)
            self.assertEqual(interface(slow), interface(module))
            slower += interface(slow, clock=True) != interface(module, clock=True)
        self.assertGreater(slower, 50)

    def test_different_results(self):
        """Two modules have the same interface exactly if all their results are equal."""
        modules = make_random_modules(45, 250, ("a",), 2, 1)
        modules = [module[:2] + (module[2][:1],) + module[3:] for module in modules]
        for clock in (False, True):
            groups = {}
            for module in modules:
                results = [walk_result(module, 0, stack, 200) for stack in stacks(("a",), 8)]
                results = tuple(results if clock else [without_ticks(told) for told in results])
                groups.setdefault(results, set()).add(interface(module, clock=clock))
            self.assertEqual({len(told) for told in groups.values()}, {1})
            self.assertEqual(len(set().union(*groups.values())), len(groups))
            self.assertGreater(len(modules), 1.5 * len(groups))


class InterfaceTest(unittest.TestCase):
    def test_numbers(self):
        """Entries first, in ascending order of their names, then the rows, each in the order of the labels."""
        rules = [(state, "", "out", ("a",) * (state + 1)) for state in range(5)]
        rules += [(0, "a", 3, ()), (0, "b", 4, ()), (2, "a", 1, ()), (2, "b", 0, ()), (4, "a", 2, ())]
        module = (AB, 5, (("a", 2), ("b", 0), ("z", 2)), ("out",), tuple(sorted(rules)))
        self.assertEqual(interface(module)[3:], ((("a", ("class", 0, 0)), ("b", ("class", 1, 0)), ("z", ("class", 0, 0))), (
            (("exit", "out", ("a",) * 3, 0), ("class", 2, 0), ("class", 1, 0)),
            (("exit", "out", ("a",), 0), ("class", 3, 0), ("class", 4, 0)),
            (("exit", "out", ("a",) * 2, 0), ("never",), ("never",)),
            (("exit", "out", ("a",) * 4, 0), ("never",), ("never",)),
            (("exit", "out", ("a",) * 5, 0), ("class", 0, 0), ("never",)))))

    def test_ticks_are_normalized(self):
        """State 0 is slow on the smallest stack on which it leaves, and quicker on others, or by another label."""
        rules = ((0, "a", 1, ("a",)), (0, "b", "out", ()), (1, "a", 2, ("a",)), (1, "b", 0, ("b",)), (2, "a", 3, ("a",)),
                 (3, "a", "out", ()))
        module = (AB, 4, (("first", 0), ("next", 1)), ("out",), rules)
        self.assertEqual(interface(module, clock=True)[3:], ((("first", ("class", 0, 4)), ("next", ("class", 1, 3))), (
            (("never",), ("exit", "out", (), 0), ("exit", "out", (), -3)),
            (("never",), ("exit", "out", (), 0), ("exit", "out", (), -1)))))
        self.assertEqual(interface(module)[3:], ((("first", ("class", 0, 0)), ("next", ("class", 0, 0))), (
            (("never",), ("exit", "out", (), 0), ("exit", "out", (), 0)),)))

    def test_without_entries_or_exits(self):
        self.assertEqual(interface(D[:2] + ((),) + D[3:]), (AB, ("low", "out"), False, (), ()))
        self.assertEqual(interface((("a",), 1, (), (), ()), clock=True), (("a",), (), True, (), ()))
        self.assertEqual(interface(G[:4] + (G[4][1:],)), (AB, ("out",), False, (("in", ("never",)),), ()))
        for clock in (False, True):
            for module in (D[:2] + ((),) + D[3:], (AB, 1, (("in", 0),), (), ()), (AB, 1, (), (), ())):
                self.assertIs(is_interface(interface(module, clock=clock)), True)

    def test_large(self):
        labels = tuple("abcdefghijkl")
        rules = [(state, label, (state + at + 1) % 100, ()) for state in range(100) for at, label in enumerate(labels)]
        rules += [(99, "", "out", ())]
        module = (labels, 100, (("in", 0),), ("out",), tuple(sorted(rules)))
        told = interface(module, clock=True)
        self.assertEqual(len(told[4]), 100)
        self.assertIs(is_interface(told), True)
        self.assertEqual(interface_result(told, "in", labels * 250), walk_result(module, 0, labels * 250, 4000))
        module, _ = chain(1200, ("out", ("l",)))
        self.assertEqual(interface(module)[3], (("in", ("class", 0, 0)),))
        self.assertEqual(interface_result(interface(module, clock=True), "in", ("a",)), ("out", ("l",), 1200))
        module = putting_back(90, ("a",))
        self.assertEqual(interface(module)[3:], ((("in", ("exit", "out", (), 0)),), ()))
        self.assertEqual(len(interface(module, clock=True)[4]), 90)


class IsInterfaceTest(unittest.TestCase):
    def test_that_no_module_has(self):
        self.assertIs(is_interface(STRANGE), True)
        self.assertEqual(interface_result(STRANGE, "a", ("a",)), ("out", ("b", "a"), -3))
        self.assertEqual(interface_result(STRANGE, "b", ()), ("low", (), -10 ** 30))
        self.assertEqual(interface_result(STRANGE, "b", ("a", "b", "b", "b")), ("out", ("b",), -10 ** 30 - 7 + 5 - 8))
        self.assertIsNone(interface_result(STRANGE, "b", ("a",)))
        self.assertIsNone(interface_result(STRANGE, "c", ("a",)))
        long = (("a",), ("out",), False, (("in", ("class", 0, 0)),), tuple(
            [(("never",), ("class", number + 1, 0)) for number in range(299)] + [(("exit", "out", ("a",) * 3000, 0), ("never",))]))
        self.assertIs(is_interface(long), True)
        self.assertEqual(interface_result(long, "in", ("a",) * 299), ("out", ("a",) * 3000, 0))
        doubled = long[:4] + (long[4][:-1] + ((("exit", "out", (), 0), ("class", 0, 0)),),)
        self.assertIs(is_interface(doubled), True)
        doubled = doubled[:3] + ((("in", ("class", 0, 0)), ("on", ("class", 1, 0))),) + doubled[4:]
        self.assertIs(is_interface(doubled), True)
        self.assertIs(is_interface(doubled[:3] + ((("in", ("class", 1, 0)), ("on", ("class", 0, 0))),) + doubled[4:]), False)

    def refuse(self, *values):
        for value in values:
            self.assertIs(is_interface(value), False, value)

    def test_wrong_classes(self):
        labels, exits, _, entries, classes = STRANGE
        first, second = classes
        start = STRANGE[:3]
        # Unreached, exchanged, or two rows of one class.
        self.refuse(start + (entries, classes + (first,)), start + (entries, classes + ((("never",),) * 3,)),
                    start + (entries[::2], classes), start + (entries, classes[:1]), start + (entries, ()))
        turned = {0: 1, 1: 0}
        swap = [tuple(("class", turned[one[1]], one[2]) if one[0] == "class" else one for one in row) for row in classes]
        self.assertIs(is_interface(start + (entries, (swap[1], swap[0]))), True)
        self.refuse(start + (entries[:1] + (("b", ("class", 1, 0)),), (swap[1], swap[0])))
        third = (("exit", "low", (), 0), ("class", 1, -7), ("exit", "out", (), -8))
        self.refuse(start + (entries, (first, second[:2] + (("class", 2, 5),), third)))
        # Settled by an exit, by never, or by way of each other.
        keep = (("exit", "out", (), 0), ("exit", "out", ("a",), 0), ("exit", "out", ("b",), 0))
        self.refuse(start + (entries, (first, keep)), start + (entries, (keep,)),
                    start + (entries, (first, (("never",),) * 3)), start + (entries, ((("never",), ("class", 0, 0), ("never",)),)),
                    start + (entries, (first, (("never",), ("class", 1, 0), ("class", 1, 3)))))
        ends = (("exit", "out", ("a",), 0), ("exit", "out", ("a", "a"), 0), ("exit", "out", ("a", "b"), 0))
        self.refuse(start + (entries, ((("exit", "out", (), 0), ("class", 1, 0), ("exit", "out", ("b",), 0)), ends)),
                    start + (entries, ((("exit", "out", (), 0), ("class", 1, 4), ("exit", "out", ("b",), 0)), ends)))
        # Ticks that are not those of a class.
        for more in (1, -1):
            self.refuse(start + (entries, ((("exit", "low", (), more),) + first[1:], second)),
                        start + (entries, (first, (("never",), ("exit", "out", ("a",), more), ("class", 0, 5)))))

    def test_settled_only_without_clock(self):
        rows = ((("exit", "out", (), 0), ("exit", "out", ("a",), 1)),)
        self.assertIs(is_interface((("a",), ("out",), True, (("in", ("class", 0, 1)),), rows)), True)
        rows = ((("exit", "out", (), 0), ("exit", "out", ("a",), 0)),)
        self.refuse((("a",), ("out",), True, (("in", ("class", 0, 1)),), rows))
        self.refuse((("a",), ("out",), False, (("in", ("class", 0, 0)),), rows))

    def test_one_part_changed(self):
        for good in (interface(D), interface(D, clock=True), interface(M, clock=True), interface(C, clock=True), STRANGE):
            self.assertIs(is_interface(good), True)
            labels, exits, clock, entries, classes = good
            self.refuse(good[:4], good + ((),), list(good), good[::-1])
            for part in (None, (), ("b", "a"), ("a",), ("a", "b", "c"), "ab", ["a", "b"], labels + ("A",)):
                self.refuse((part,) + good[1:])
            for part in (None, (), exits[::-1] + ("aa",), ["out"], tuple("abcdefghijklm"), exits + ("",), "out", exits * 2):
                self.refuse((labels, part) + good[2:])
            for part in (None, 0, 1, "yes", (), (clock,)):
                self.refuse((labels, exits, part) + good[3:])
            for part in (None, list(entries), entries * 2, entries[::-1] + (("a", ("never",)),), {}, (("in",),), entries[0],
                         entries + (("zz", ("never",), 0),), entries + (["zz", ("never",)],), entries + (("ZZ", ("never",)),),
                         entries + (("zz", ("stuck",)),), tuple(("z" + letter, ("never",)) for letter in "abcdefghijklm")):
                self.refuse(good[:3] + (part, classes), good[:3] + (part, ()))
            for part in (None, list(classes), classes[0], (list(classes[0]),) + classes[1:], (classes[0][:-1],) + classes[1:],
                         (classes[0] + (("never",),),) + classes[1:], (classes[0][1:],) + classes[1:], (None,), {}):
                self.refuse(good[:4] + (part,))
            self.assertIs(is_interface(good[:2] + (clock, entries + (("zz", ("never",)),), classes)), True)

    def test_wrong_outcomes(self):
        wrong = [("exit", "out", ()), ("exit", "out", (), 0, 0), ("exit", "zz", (), 0), ("exit", 0, (), 0), ("exit", ["out"], (), 0),
                 ("exit", "out", ["a"], 0), ("exit", "out", ("c",), 0), ("exit", "out", "a", 0), ("exit", "out", (), None),
                 ("exit", "out", (), False), ("exit", "out", (), "0"), ("class", 0), ("class", 0, 0, 0), ("class", True, 0),
                 ("class", False, 0), ("class", 0, False), ("class", 0, None), ("class", -1, 0), ("class", 2, 0), ("class", "0", 0),
                 ("class", 10 ** 39, 0), ("state", 0, 0), ("pop", 0, 0), ("never", 0), ("never",) * 2, ("stuck",), (), None, "never",
                 ["never"], ["exit", "out", (), 0], ["class", 0, 0], {}, 0, True, (("never",),)]
        good = interface(D)
        for clock in (False, True):
            for outcome in wrong:
                self.refuse(good[:2] + (clock, (("in", outcome),), good[4]), good[:2] + (clock, (("in", outcome),), ()),
                            good[:2] + (clock, good[3] + (("on", outcome),), good[4]))
                for at in range(3):
                    self.refuse(good[:2] + (clock, good[3], (good[4][0][:at] + (outcome,) + good[4][0][at + 1:],)))
        self.refuse(good[:4] + (((("class", 0, 0),) + good[4][0][1:],),))
        # Without clock all ticks are 0.
        for ticks in (1, -1):
            self.refuse(good[:3] + ((("in", ("class", 0, ticks)),), good[4]),
                        good[:3] + ((("in", ("exit", "out", (), ticks)),), ()),
                        good[:4] + ((good[4][0][:1] + (("class", 0, ticks),) + good[4][0][2:],),),
                        good[:4] + ((good[4][0][:2] + (("exit", "out", ("b",), ticks),),),))
            self.assertIs(is_interface(good[:2] + (True, (("in", ("class", 0, ticks)),), good[4])), True)

    def test_other_values(self):
        self.refuse(*ODD)
        self.refuse(*SAMPLES)


class ErrorsTest(unittest.TestCase):
    def test_errors(self):
        check_errors(self, interface, {0: D}, [MODULES])
        check_errors(self, interface, {0: D, "clock": True}, [MODULES])
        for good in (interface(D), STRANGE):
            name = good[3][0][0]
            check_errors(self, interface_result, {0: good, 1: name, 2: ("a",)}, [
                (0, ODD + (D, good[:4] + (good[4] * 2,)), InvalidInterface, None),
                (1, ODD + ("out", "low", 0, (name,)), UnknownEntry, "name"),
                (2, ODD + ("a", ["a", "b"], ("a", "c")), InvalidStack, None)])


if __name__ == "__main__":
    unittest.main()
