import copy
import itertools
import unittest

from piledoors.errors import (InvalidLabels, InvalidModule, InvalidRule, InvalidStack, UnknownEntry, UnknownState)
from piledoors.modules import modules
from piledoors.modules.modules import (is_labels, is_module, is_rule, is_stack, make_module, rule_at, rule_heads,
                                       start_state, with_rule, without_rule)
from tests.samples import AB, C, D, G, M, ODD, SAMPLES, check_errors

TWELVE = tuple("abcdefghijkl")
WRONG_MODULES = ODD + (AB, (), "module", D[0], D[4])


def changed(module, at, part):
    return module[:at] + (part,) + module[at + 1:]


class ConstantsTest(unittest.TestCase):
    def test_constants(self):
        self.assertEqual(modules.EMPTY, "")
        self.assertEqual([modules.MAX_LABELS, modules.MAX_STATES, modules.MAX_DOORS, modules.MAX_PUSH],
                         [12, 100, 12, 20])


class LabelsTest(unittest.TestCase):
    def test_examples(self):
        self.assertEqual([is_labels(AB), is_labels(("b", "a")), is_module(D), is_module(D[:4] + (D[4][::-1],))],
                         [True, False, True, False])
        self.assertEqual([is_stack(AB, ("b", "a", "b")), is_stack(AB, ("c",)), is_stack(AB, ["a"])],
                         [True, False, False])

    def test_limits_of_labels(self):
        for labels in (("a",), TWELVE, ("abcdefgh",), ("a", "aa", "b", "zzzzzzzz")):
            self.assertIs(is_labels(labels), True, labels)
        for labels in ((), TWELVE + ("m",), ("abcdefghi",), ("",), ("a", "a"), ("b", "a"), ("a", "aa", "ab", "aa"),
                       ("A",), ("a1",), ("a_",), ("a", "B"), ("\u00e4",), ("a\n",), "ab", "a", ["a"], (("a",),), (1,),
                       {"a": 1}, None, True, 7):
            self.assertIs(is_labels(labels), False, labels)
        for value in ODD:
            self.assertIs(is_labels(value), False, value)

    def test_stacks(self):
        for stack in ((), ("a",), ("b",) * 1000):
            self.assertIs(is_stack(AB, stack), True)
        for stack in ("", "a", "ab", ["a"], ("a", "c"), ("a", ""), ("a", "ab"), ("a",) * 999 + ("c",)) + ODD:
            self.assertIs(is_stack(AB, stack), False, stack)

    def test_errors_of_is_stack(self):
        check_errors(self, is_stack, {0: AB, 1: ("a",)}, [(0, ODD + (("b", "a"), (), "ab"), InvalidLabels, None)])
        for value in ODD:
            self.assertRaises(InvalidLabels, is_stack, ("b", "a"), value)


class IsModuleTest(unittest.TestCase):
    def test_samples_and_limits(self):
        for module in SAMPLES:
            self.assertIs(is_module(module), True)
        doors = tuple(sorted("x" + letter for letter in TWELVE))
        heads = [(state, top) for state in range(100) for top in ("",) + TWELVE]
        full = (TWELVE, 100, tuple((door, 99) for door in doors), doors,
                tuple(head + ("xa", ("l",) * 20) for head in heads))
        self.assertIs(is_module(full), True)
        self.assertIs(is_module((("a",), 1, (), (), ())), True)
        self.assertIs(is_module(changed(full, 1, 101)), False)
        self.assertIs(is_module(changed(full, 2, full[2] + (("y", 0),))), False)
        self.assertIs(is_module(changed(full, 3, full[3] + ("y",))), False)
        long = full[4][0][:3] + (("l",) * 21,)
        self.assertIs(is_module(changed(full, 4, (long,) + full[4][1:])), False)

    def test_size(self):
        for size in (0, 101, -1, True, None, "1", (1,), 10 ** 39):
            self.assertIs(is_module((AB, size, (), (), ())), False, size)
        for size in (1, 2, 100):
            self.assertIs(is_module((AB, size, (), (), ())), True, size)

    def test_entries(self):
        for entries in ((("a", 0), ("b", 1)), (), (("a", 1), ("b", 0))):
            self.assertIs(is_module((AB, 2, entries, (), ())), True, entries)
        for entries in ((("b", 0), ("a", 1)), (("a", 0), ("a", 1)), (("a", 0), ("a", 0)), (("a", 2),), (("a", -1),),
                        (("a", True),), (("a", False),), (("A", 0),), (("", 0),), ((0, "a"),), (("a",),), (("a", 0, 0),),
                        (["a", 0],), [("a", 0)], ("a", 0), {"a": 0}, None, ((["a"], 0),), (("a", "0"),)):
            self.assertIs(is_module((AB, 2, entries, (), ())), False, entries)

    def test_exits(self):
        for exits in ((), ("a",), ("a", "b"), ("in",)):
            self.assertIs(is_module((AB, 1, (("in", 0),), exits, ())), True, exits)
        for exits in (("b", "a"), ("a", "a"), ("A",), ("",), ("abcdefghi",), ["a"], "a", (0,), (("a",),), None):
            self.assertIs(is_module((AB, 1, (), exits, ())), False, exits)

    def test_rules(self):
        good = (0, "a", 1, ("b",))
        last = (1, "", "out", ())
        for rules in ((), (good,), (good, last), ((0, "", 0, ()), good)):
            self.assertIs(is_module((AB, 2, (), ("out",), rules)), True, rules)
        for rules in ((last, good), (good, good), (good, (0, "a", 0, ())), (good, (0, "", 0, ())), [good], good,
                      (list(good),), (good[:3],), (good + ((),),), None, {}, "", ((0, "a", 1, "b"),)):
            self.assertIs(is_module((AB, 2, (), ("out",), rules)), False, rules)

    def test_other_values(self):
        for value in WRONG_MODULES + (D[::-1], list(D), D[:4] + (list(D[4]),), changed(D, 0, ["a", "b"])):
            self.assertIs(is_module(value), False, value)


class IsRuleTest(unittest.TestCase):
    def test_examples(self):
        self.assertEqual([is_rule(G, (0, "b", 0, ())), is_rule(G, (0, "b", 1, ())), is_rule(G, (0, "b", "low", ()))],
                         [True, False, False])

    def test_parts(self):
        for rule in ((0, "", 0, ()), (2, "a", 2, ("a",) * 20), (0, "a", "out", ("b",)), (0, "a", 1, ())):
            self.assertIs(is_rule(M, rule), True, rule)
        for rule in ((3, "a", 0, ()), (-1, "a", 0, ()), (True, "a", 0, ()), (False, "a", 0, ()), ("0", "a", 0, ()),
                     (0, "c", 0, ()), (0, None, 0, ()), (0, ("a",), 0, ()), (0, ["a"], 0, ()), (0, "a", 3, ()),
                     (0, "a", -1, ()), (0, "a", True, ()), (0, "a", "in", ()), (0, "a", "", ()), (0, "a", None, ()),
                     (0, "a", ["out"], ()), (0, "a", 0, ("a",) * 21), (0, "a", 0, ("c",)), (0, "a", 0, ["a"]),
                     (0, "a", 0, "a"), (0, "a", 0, ("",)), (0, "a", 0, None), (0, "a", 0), (0, "a", 0, (), ()),
                     [0, "a", 0, ()]) + ODD:
            self.assertIs(is_rule(M, rule), False, rule)

    def test_errors(self):
        check_errors(self, is_rule, {0: D, 1: (0, "a", 0, ())}, [(0, WRONG_MODULES, InvalidModule, None)])


class MakeModuleTest(unittest.TestCase):
    def test_example(self):
        made = make_module(("b", "a"), 1, entries=(("in", 0),), exits=("out", "low"), rules=D[4][::-1])
        self.assertEqual(made, D)
        self.assertRaises(InvalidLabels, make_module, ("a", "a"), 0)
        self.assertEqual(make_module(("a",), 7), (("a",), 7, (), (), ()))

    def test_any_order(self):
        entries = (("x", 2), ("y", 0), ("z", 1))
        for order in itertools.permutations(range(3)):
            made = make_module(tuple("bca"[at] for at in order), 3, entries=tuple(entries[at] for at in order),
                               exits=tuple(("p", "q", "out")[at] for at in order),
                               rules=tuple(M[4][3 * at] for at in order))
            self.assertEqual(made, (("a", "b", "c"), 3, entries, ("out", "p", "q"), M[4][::3]))
        self.assertEqual(make_module(AB, 3, entries=M[2], exits=M[3], rules=M[4][::-1]), M)

    def test_wrong_labels(self):
        for labels in ODD + ((), ("a", "a"), TWELVE + ("m",), ["a"], "a", ("a", 1), ("a", None)):
            for size in (1, 0):
                self.assertRaises(InvalidLabels, make_module, labels, size, entries=None, rules=None)

    def test_wrong_parts(self):
        wrong = ({"entries": [("in", 0)]}, {"entries": (("in", 1),)}, {"entries": (("in", False),)},
                 {"entries": (("in", 0), ("in", 0))}, {"entries": (("in", 0), (0, "in"))}, {"entries": ("in", None)},
                 {"entries": tuple((letter, 0) for letter in "abcdefghijklm")}, {"exits": ["out"]},
                 {"exits": ("out", "out")}, {"exits": ("out", 1)}, {"exits": tuple("abcdefghijklm")}, {"exits": "out"},
                 {"entries": None}, {"exits": None}, {"exits": {}}, {"exits": (("a",), "a")})
        for parts in wrong:
            for rules in ((), None, (("x",),)):
                self.assertRaises(InvalidModule, make_module, ("b", "a"), 1, rules=rules, **parts)
        for size in (0, 101, True, None, "1", [1]):
            self.assertRaises(InvalidModule, make_module, ("b", "a"), size, rules=None)

    def test_wrong_rules(self):
        for rules in (None, [], [D[4][0]], {}, "", 0, D[4] + (D[4][0],), D[4] + ((0, "a", 0, ("b",)),), D[4] + ((),),
                      ((0, "a", 1, ()),), ((0, "a", "x", ()),), ((False, "a", 0, ()),), (list(D[4][0]),),
                      (None, D[4][0]), ODD):
            self.assertRaises(InvalidRule, make_module, AB, 1, exits=("low", "out"), rules=rules)

    def test_errors_in_order(self):
        good = {0: ("b", "a"), 1: 1, "entries": D[2], "exits": D[3], "rules": D[4]}
        check_errors(self, make_module, good, [
            (0, (["a"], ("a", "a"), None), InvalidLabels, None), (1, (0, True), InvalidModule, None),
            ("entries", ([], (("in", 1),), None), InvalidModule, None), ("exits", ([], ("A",), 0), InvalidModule, None),
            ("rules", ([], (D[4][0], D[4][0]), None), InvalidRule, None)])


class RulesTest(unittest.TestCase):
    def test_examples(self):
        self.assertEqual(rule_heads(G), ((0, ""), (0, "a")))
        self.assertEqual([rule_at(D, 0, "b"), rule_at(G, 0, "b"), start_state(D, "in")], [("out", ("b",)), None, 0])
        with self.assertRaises(UnknownEntry) as caught:
            start_state(D, "out")
        self.assertEqual(caught.exception.name, "out")
        self.assertEqual(with_rule(G, (0, "b", 0, ()))[4],
                         ((0, "", "out", ()), (0, "a", 0, ("a", "b", "a")), (0, "b", 0, ())))
        self.assertRaises(InvalidRule, without_rule, G, 0, "b")

    def test_heads_and_rules(self):
        for module in SAMPLES:
            self.assertEqual(rule_heads(module), tuple(rule[:2] for rule in module[4]))
            for state in range(module[1]):
                for top in ("", "a", "b"):
                    found = [rule[2:] for rule in module[4] if rule[:2] == (state, top)]
                    self.assertEqual(rule_at(module, state, top), found[0] if found else None)
        self.assertEqual(rule_heads((AB, 1, (), (), ())), ())

    def test_start_states(self):
        module = (AB, 3, (("a", 2), ("b", 0), ("out", 1)), ("out",), ())
        self.assertEqual([start_state(module, name) for name in ("a", "b", "out")], [2, 0, 1])

    def test_set_remove_and_set_again(self):
        old = M[4][4]
        new = (1, "a", 2, ("b", "b"))
        replaced = with_rule(M, new)
        self.assertEqual(replaced, changed(M, 4, M[4][:4] + (new,) + M[4][5:]))
        removed = without_rule(replaced, 1, "a")
        self.assertEqual(removed, changed(M, 4, M[4][:4] + M[4][5:]))
        self.assertRaises(InvalidRule, without_rule, removed, 1, "a")
        self.assertEqual(with_rule(removed, old), M)
        self.assertEqual(with_rule(M, old), M)
        empty = M
        for state, top in rule_heads(M):
            empty = without_rule(empty, state, top)
        self.assertEqual(empty, changed(M, 4, ()))
        for rule in M[4][::-1]:
            empty = with_rule(empty, rule)
        self.assertEqual(empty, M)
        self.assertEqual(with_rule(G, (0, "", 0, ("a",)))[4][0], (0, "", 0, ("a",)))

    def test_errors(self):
        modules_wrong = (0, WRONG_MODULES, InvalidModule, None)
        states = (1, (1, -1, True, False, None, "0", (0,), [0], {}, 10 ** 39), UnknownState, "state")
        tops = (2, ("c", "A", "ab", None, 0, ("a",), ["a"], {}, ()), InvalidStack, None)
        check_errors(self, rule_heads, {0: D}, [modules_wrong])
        check_errors(self, rule_at, {0: D, 1: 0, 2: "a"}, [modules_wrong, states, tops])
        check_errors(self, without_rule, {0: D, 1: 0, 2: "a"}, [modules_wrong, states, tops])
        check_errors(self, with_rule, {0: D, 1: (0, "a", 0, ())},
                     [modules_wrong, (1, ODD + ((1, "a", 0, ()),), InvalidRule, None)])
        check_errors(self, start_state, {0: D, 1: "in"},
                     [modules_wrong, (1, ODD + ("out", "", 0, ("in",)), UnknownEntry, "name")])

    def test_equal_calls_give_equal_results(self):
        module = copy.deepcopy(C)
        first = with_rule(module, (0, "b", "out", ()))
        self.assertEqual(first, with_rule(module, (0, "b", "out", ())))
        self.assertEqual(module, C)
