import copy
import unittest

from piledoors.compare.equivalence import are_equivalent
from piledoors.errors import InvalidInterface, InvalidModule, TooLarge
from piledoors.interfaces.interfaces import interface, interface_result, is_interface
from piledoors.interfaces.realize import least_form, least_module, state_count
from piledoors.modules.modules import is_module
from tests.samples import (AB, B, C, D, E, G, H, J, M, N, ODD, T, V, Walks, check_errors, make_keeping_modules, make_pairs,
                           make_random_modules, putting_back, ring, stacks, without_ticks)
from tests.test_interfaces import STRANGE
from tests.test_link_interfaces import WRONG, random_interfaces

SAMPLES = (B, C, D, E, G, H, J, M, N, T, V)
TWELVE = tuple("abcdefghijkl")
WRONG_INTERFACES = (0, WRONG + (interface(D, clock=True), interface(N, clock=True), STRANGE), InvalidInterface, None)


def line(size, word=()):
    """An interface with so many classes, one behind the other. The last one leaves with the word."""
    rows = tuple((("never",), ("class", at + 1, 0)) for at in range(size - 1)) + ((("exit", "out", word, 0), ("never",)),)
    return (("a",), ("out",), False, (("in", ("class", 0, 0)),), rows)


def keeping(many):
    """An interface that puts so many labels on every stack."""
    return (AB, ("out",), False, (("in", ("exit", "out", ("a",) * many, 0)),), ())


def make_modules():
    modules = list(SAMPLES) + [putting_back(2, AB), putting_back(17, AB)]
    modules += make_random_modules(151, 80, AB, 4, 2) + make_random_modules(152, 40, ("a",), 5, 3)
    return modules + make_keeping_modules(153, 60)


def told_by_words(told):
    """The least module as 15.1 tells it, state by state."""
    labels, exits, _, entries, classes = told
    functions = [("class", number, 0) for number in range(len(classes))]
    for _, outcome in entries:
        if outcome not in functions:
            functions.append(outcome)
    rules = []
    for state, function in enumerate(functions):
        for at, top in enumerate(("",) + labels):
            label = (top,) if top else ()
            if function[0] == "class":
                outcome = classes[function[1]][at]
            elif function[0] == "exit":
                outcome = ("exit", function[1], function[2] + label, 0)
            else:
                outcome = ("never",)
            if outcome[0] == "exit":
                rules.append((state, top, outcome[1], outcome[2]))
            elif outcome[0] == "class":
                rules.append((state, top, functions.index(outcome), ()))
    starts = tuple((name, functions.index(outcome)) for name, outcome in entries)
    return (labels, max(1, len(functions)), starts, exits, tuple(rules))


class ExamplesTest(unittest.TestCase):
    def test_examples(self):
        self.assertEqual([state_count(interface(D)), state_count(interface(M))], [1, 1])
        self.assertEqual(least_module(interface(M)), N)
        self.assertEqual(least_module(interface(G)), (("a", "b"), 1, (("in", 0),), ("out",), ((0, "", "out", ()),)))
        self.assertEqual(least_form(C), (("a", "b"), 1, (("in", 0),), ("out",), ((0, "", "out", ()), (0, "a", 0, ()), (0, "b", 0, ()))))


class LeastTest(unittest.TestCase):
    def test_state_by_state(self):
        sizes = set()
        for told in [interface(module) for module in make_modules()] + random_interfaces(154, 60, False):
            least = least_module(told)
            self.assertEqual(least, told_by_words(told))
            self.assertIs(is_module(least), True)
            self.assertEqual(interface(least), told)
            self.assertEqual(state_count(told), least[1])
            self.assertEqual(least_module(told), least)
            sizes.add(least[1])
        self.assertLessEqual({1, 2, 3, 4}, sizes)

    def test_least_forms(self):
        for module in make_modules():
            least = least_form(module)
            self.assertEqual(least, least_module(interface(module)))
            self.assertEqual(least_form(least), least)
            self.assertIs(are_equivalent(module, least), True)
            self.assertLessEqual(least[1], module[1])
            walks = Walks(least, 50)
            for name, _ in module[2]:
                for stack in stacks(module[0], 3):
                    self.assertEqual(without_ticks(walks.result(name, stack)), interface_result(interface(module), name, stack))

    def test_equal_least_forms(self):
        told = []
        for first, second in make_pairs(155, 60):
            told.append(are_equivalent(first, second))
            self.assertEqual(least_form(first) == least_form(second), told[-1])
        self.assertGreater(min(told.count(True), told.count(False)), 20)

    def test_without_entries(self):
        empty = (AB, ("low", "out"), False, (), ())
        self.assertEqual(least_module(empty), (AB, 1, (), ("low", "out"), ()))
        self.assertEqual(state_count(empty), 1)
        self.assertEqual(least_form((AB, 7, (), ("out",), ((3, "", "out", ()),))), (AB, 1, (), ("out",), ()))
        self.assertEqual(least_form((AB, 7, (), (), ())), (AB, 1, (), (), ()))

    def test_settled_entries(self):
        """Entries that are settled in the same way share a state; one that never leaves has a state without rules."""
        keep, never = ("exit", "out", (), 0), ("never",)
        told = (AB, ("low", "out"), False, (("a", never), ("b", keep), ("c", never), ("d", ("exit", "out", ("a",), 0)), ("e", keep),
                                            ("f", ("exit", "low", (), 0))), ())
        self.assertIs(is_interface(told), True)
        self.assertEqual(state_count(told), 4)
        least = least_module(told)
        self.assertEqual(least[:4], (AB, 4, (("a", 0), ("b", 1), ("c", 0), ("d", 2), ("e", 1), ("f", 3)), ("low", "out")))
        self.assertEqual(least[4], (
            (1, "", "out", ()), (1, "a", "out", ("a",)), (1, "b", "out", ("b",)),
            (2, "", "out", ("a",)), (2, "a", "out", ("a", "a")), (2, "b", "out", ("a", "b")),
            (3, "", "low", ()), (3, "a", "low", ("a",)), (3, "b", "low", ("b",))))
        mixed = told[:3] + ((("a", never), ("b", keep), ("c", ("class", 0, 0))), ((("exit", "low", (), 0), ("class", 0, 0), never),))
        self.assertEqual(state_count(mixed), 3)
        self.assertEqual(least_module(mixed)[:3], (AB, 3, (("a", 1), ("b", 2), ("c", 0))))
        self.assertEqual(interface(least_module(mixed)), mixed)
        self.assertEqual(least_form(G[:4] + (G[4][1:],)), (AB, 1, (("in", 0),), ("out",), ()))

    def test_words(self):
        self.assertEqual(least_module(line(2, ("a",) * 20))[4][-1], (1, "", "out", ("a",) * 20))
        self.assertEqual(least_module(keeping(19))[4][-1], (0, "b", "out", ("a",) * 19 + ("b",)))
        for told in (line(2, ("a",) * 21), line(1, ("a",) * 500), keeping(20), keeping(21)):
            self.assertIs(is_interface(told), True)
            self.check_too_large(least_module, told, 20)
            self.assertEqual(state_count(told), max(1, len(told[4])))
        for size, told in ((18, None), (19, None), (20, 20), (21, 20)):
            # It reads labels a and puts them back, one of them always: an unsettled state leaves with so many labels.
            whole = putting_back(size, AB)
            whole = whole[:4] + (tuple(rule for rule in whole[4] if rule[0] < size or rule[0] > size or rule[1] == "b"),)
            if told:
                self.check_too_large(least_form, whole, told)
            else:
                self.assertEqual(interface(least_form(whole)), interface(whole))

    def test_states(self):
        for size in (99, 100):
            self.assertEqual(least_module(line(size))[1], size)
            self.assertEqual(interface(least_module(line(size))), line(size))
        for size in (101, 300):
            self.check_too_large(least_module, line(size), 100)
            self.assertEqual(state_count(line(size)), size)
        more = line(100)
        more = more[:3] + (more[3] + (("on", ("never",)),),) + more[4:]
        self.check_too_large(least_module, more, 100)
        self.assertEqual(state_count(more), 101)
        less = line(99)
        self.assertEqual(least_module(less[:3] + (less[3] + (("on", ("never",)),),) + less[4:])[1], 100)
        # Of both limits, that of the rules is looked at first.
        self.check_too_large(least_module, line(101, ("a",) * 21), 20)

    def check_too_large(self, call, value, limit):
        with self.assertRaises(TooLarge) as caught:
            call(value)
        self.assertIs(type(caught.exception), TooLarge)
        self.assertEqual(caught.exception.limit, limit)

    def test_large(self):
        first = ring(100, lambda state: state % 50 == 0, TWELVE, stuck=True)
        self.assertEqual(least_form(first), ring(50, lambda state: state == 0, TWELVE, stuck=True))
        whole = ring(100, lambda state: state == 0, TWELVE)
        self.assertEqual(least_form(whole), whole)
        self.assertEqual(least_module(interface(whole)), whole)


class ErrorsTest(unittest.TestCase):
    def test_errors(self):
        for call in (state_count, least_module):
            check_errors(self, call, {0: interface(D)}, [WRONG_INTERFACES])
        check_errors(self, least_form, {0: D}, [(0, ODD + (interface(D),), InvalidModule, None)])

    def test_nothing_is_changed(self):
        values = (interface(D), D)
        before = copy.deepcopy(values)
        self.assertEqual(least_module(values[0]), least_module(values[0]))
        self.assertEqual(least_form(D), least_form(D))
        self.assertEqual(state_count(values[0]), state_count(values[0]))
        self.assertEqual(values, before)


if __name__ == "__main__":
    unittest.main()
