import random
import unittest

from piledoors.errors import InvalidModule, InvalidWires, NameConflict, TooLarge
from piledoors.linking.link import is_wires, link, link_self, rename
from piledoors.modules.modules import is_module
from piledoors.results.results import result
from tests.samples import (AB, C, D, E, G, H, M, N, ODD, T, Walks, check_errors, make_keeping_modules, make_linked,
                           make_random_modules, ring, stacks, visits)

MODULES = (0, ODD, InvalidModule, None)
W = (((0, "out"), (1, "cut")), ((1, "next"), (0, "in")))
OTHER_LABELS = (("a", "b", "c"),) + E[1:]
WRONG_SECOND = (1, ODD + (OTHER_LABELS, (("a",), 1, (), (), ())), InvalidModule, None)
# Wires between D and E that are none.
WRONG_WIRES = ODD + (W[::-1], W + W, W + W[1:], list(W), W[0], (W[0][0], W[0][1]), (list(W[0]),), (W[0] + (0,),), (W[0][:1],),
                     (((0, "out"), (1, "cut")), ((0, "out"), (0, "in"))), (((0, "out"), [1, "cut"]),), (([0, "out"], (1, "cut")),),
                     (((0, "cut"), (1, "cut")),), (((0, "next"), (1, "cut")),), (((1, "out"), (1, "cut")),), (((0, "in"), (0, "in")),),
                     (((0, "out"), (0, "cut")),), (((0, "out"), (1, "in")),), (((0, "out"), (1, "out")),),
                     (((2, "out"), (1, "cut")),), (((0, "out"), (2, "cut")),), (((-1, "next"), (0, "in")),),
                     (((False, "out"), (1, "cut")),), (((0, "out"), (True, "cut")),), (((True, "next"), (0, "in")),),
                     (((1, "next"), (False, "in")),), ((("0", "out"), (1, "cut")),), (((0, "out"), ("1", "cut")),),
                     (((0, None), (1, "cut")),), (((0, "out"), (1, None)),), (((0, "out", 0), (1, "cut")),), ((None, (1, "cut")),),
                     ((("out",), ("cut",)),), (("out", "cut"),), {}, "", 0)
# Kept entries for W that are none.
WRONG_KEPT = ODD + (((1, "cut"), (0, "in")), ((0, "in"), (0, "in")), [(0, "in")], (0, "in"), ([0, "in"],), ((0, "cut"),),
                    ((1, "in"),), ((0, "out"),), ((2, "in"),), ((False, "in"),), ((True, "cut"),), (("0", "in"),), ((0, None),),
                    ((0, "in", 0),), ("in",), (None,), {}, "")


class ExamplesTest(unittest.TestCase):
    def test_examples(self):
        self.assertEqual([is_wires(D, E, W), is_wires(D, E, W[::-1]), is_wires(D, E, (((0, "cut"), (1, "cut")),))],
                         [True, False, False])
        both = link(D, E, W, kept=((0, "in"),))
        self.assertEqual(both, (("a", "b"), 2, (("in", 0),), ("low",), (
            (0, "", "low", ()), (0, "a", 0, ()), (0, "b", 1, ("b",)), (1, "b", 0, ()))))
        self.assertEqual(result(both, "in", ("a", "b", "a", "b")), ("low", (), 7))
        with self.assertRaises(NameConflict) as caught:
            link(D, D, ())
        self.assertEqual(caught.exception.name, "in")
        own = link_self(H, (("more", "in"),), kept=("in",))
        self.assertEqual(own, (("a", "b"), 1, (("in", 0),), ("done",), (
            (0, "", "done", ()), (0, "a", 0, ()), (0, "b", "done", ("b",)))))
        self.assertEqual(rename(D, exits=(("low", "done"), ("out", "done"))), own)


class IsWiresTest(unittest.TestCase):
    def test_wires(self):
        for value in ((), W, W[:1], W[1:], (((0, "low"), (1, "cut")), ((0, "out"), (0, "in"))), (((1, "next"), (1, "cut")),),
                      (((0, "low"), (0, "in")), ((0, "out"), (0, "in")), ((1, "next"), (0, "in")))):
            self.assertIs(is_wires(D, E, value), True, value)
        for value in WRONG_WIRES:
            self.assertIs(is_wires(D, E, value), False, value)
        self.assertIs(is_wires(D, D, (((0, "low"), (0, "in")), ((0, "out"), (1, "in")), ((1, "low"), (0, "in")))), True)

    def test_most_wires(self):
        doors = tuple("abcdefghijkl")
        module = (AB, 1, tuple((door, 0) for door in doors), doors, ())
        wires = tuple(((side, door), (1 - side, door)) for side in (0, 1) for door in doors)
        self.assertIs(is_wires(module, module, wires), True)
        self.assertIs(is_wires(module, module, wires[::-1]), False)
        self.assertEqual(link(module, module, wires), (AB, 2, (), (), ()))

    def test_errors(self):
        for value in (W, None):
            check_errors(self, is_wires, {0: D, 1: E, 2: value}, [MODULES, WRONG_SECOND])


class LinkTest(unittest.TestCase):
    def test_rules(self):
        """States are shifted, wired exits lead to states, pushes stay; exits of both with one name are one exit."""
        first = (AB, 2, (("one", 1), ("two", 0)), ("left", "out"), (
            (0, "", "left", ("a",)), (0, "a", 1, ("b", "b")), (0, "b", "out", ("a", "b")), (1, "a", "left", ())))
        second = (AB, 3, (("six", 2), ("ten", 1)), ("end", "out"), (
            (0, "", "out", ()), (1, "a", 2, ()), (1, "b", "end", ("b",)), (2, "", 0, ("a",)), (2, "a", 1, ("a",))))
        self.assertEqual(link(first, second, ()), (AB, 5, (("one", 1), ("six", 4), ("ten", 3), ("two", 0)), ("end", "left", "out"), (
            (0, "", "left", ("a",)), (0, "a", 1, ("b", "b")), (0, "b", "out", ("a", "b")), (1, "a", "left", ()),
            (2, "", "out", ()), (3, "a", 4, ()), (3, "b", "end", ("b",)), (4, "", 2, ("a",)), (4, "a", 3, ("a",)))))
        wires = (((0, "left"), (1, "six")), ((1, "end"), (1, "ten")), ((1, "out"), (0, "two")))
        rules = ((0, "", 4, ("a",)), (0, "a", 1, ("b", "b")), (0, "b", "out", ("a", "b")), (1, "a", 4, ()),
                 (2, "", 0, ()), (3, "a", 4, ()), (3, "b", 3, ("b",)), (4, "", 2, ("a",)), (4, "a", 3, ("a",)))
        self.assertEqual(link(first, second, wires), (AB, 5, (("one", 1),), ("out",), rules))
        self.assertEqual(link(first, second, wires, kept=((0, "two"), (1, "six"))),
                         (AB, 5, (("one", 1), ("six", 4), ("two", 0)), ("out",), rules))
        self.assertEqual(link(first, second, wires, kept=((1, "ten"),))[2], (("one", 1), ("ten", 3)))
        self.assertEqual(link(second, first, ())[4][:5], second[4])

    def test_a_name_that_is_an_entry_and_an_exit(self):
        first = (AB, 1, (("door", 0),), ("door",), ((0, "a", "door", ()),))
        second = (AB, 1, (("other", 0),), ("door",), ((0, "b", "door", ()),))
        self.assertEqual(link(first, second, ()), (AB, 2, (("door", 0), ("other", 1)), ("door",), (
            (0, "a", "door", ()), (1, "b", "door", ()))))
        self.assertEqual(link(first, second, (((0, "door"), (0, "door")),)), (AB, 2, (("other", 1),), ("door",), (
            (0, "a", 0, ()), (1, "b", "door", ()))))

    def test_the_same_module_on_both_sides(self):
        wires = (((0, "out"), (1, "in")),)
        both = link(T, T, wires)
        self.assertEqual(both[1:4], (4, (("in", 0),), ("low", "out")))
        self.assertEqual(both[4], ((0, "", "low", ()), (0, "a", 1, ("a",)), (0, "b", 2, ("b",)), (1, "a", 0, ()),
                                   (2, "", "low", ()), (2, "a", 3, ("a",)), (2, "b", "out", ("b",)), (3, "a", 2, ())))
        self.assertEqual(result(both, "in", ("a", "b", "a")), ("out", ("b", "a"), 4))
        around = link(T, T, (((0, "low"), (0, "in")), ((0, "out"), (1, "in")), ((1, "low"), (0, "in")), ((1, "out"), (1, "in"))),
                      kept=((1, "in"),))
        self.assertEqual(around[2:4], ((("in", 2),), ()))
        for stack in stacks(AB, 3):
            self.assertIsNone(result(around, "in", stack))

    def test_results_by_visits(self):
        kinds = {}
        for first, second, wires, kept in make_linked(71, 250):
            both = link(first, second, wires, kept=kept)
            self.assertIs(is_module(both), True)
            parts = [Walks(first, 300), Walks(second, 300)]
            doors = {name: (side, name) for side, module in enumerate((first, second)) for name, _ in module[2]}
            reached = [entry for _, entry in wires]
            left = sorted(name for name, door in doors.items() if door not in reached or door in kept)
            self.assertEqual([name for name, _ in both[2]], left)
            for name in left:
                for stack in stacks(AB, 3):
                    told = result(both, name, stack)
                    self.assertEqual(told, visits(parts, wires, doors[name], stack, 300), (first, second, wires, name, stack))
                    kinds[told is None] = kinds.get(told is None, 0) + 1
        self.assertGreater(min(kinds.values()), 500)

    def test_endless_visits(self):
        wires = (((0, "out"), (1, "on")), ((1, "out"), (0, "in")))
        second = rename(N, entries=(("in", "on"),))
        both = link(N, second, wires, kept=((0, "in"),))
        self.assertEqual(both[2:4], ((("in", 0),), ()))
        self.assertIsNone(result(both, "in", ("a",)))
        both = link(G, second, wires[:1])
        self.assertEqual([result(both, "in", stack) for stack in ((), ("a",), ("b",))], [("out", (), 2), None, None])

    def test_limits(self):
        first, second = ring(50, lambda state: True), rename(ring(50, lambda state: True), entries=(("in", "on"),))
        self.assertEqual(link(first, second, ())[1], 100)
        more = rename(ring(51, lambda state: True), entries=(("in", "on"),))
        doors = tuple("x" + letter for letter in "abcdefghijkl")
        self.too_large(100, link, first, more)
        self.too_large(100, link, first, more[:3] + (doors,) + ((),))
        for many in (6, 7):
            left = (AB, 1, tuple((name, 0) for name in doors[:6]), doors[:6], ())
            right = (AB, 1, tuple(("y" + name[1:], 0) for name in doors[:many]), (), ())
            outer = (AB, 1, (), tuple("y" + name[1:] for name in doors[:many]), ())
            if many == 6:
                self.assertEqual([len(link(left, right, ())[2]), len(link(left, outer, ())[3])], [12, 12])
                self.assertEqual(len(link(left, left[:2] + ((),) + left[3:], ())[3]), 6)
            else:
                self.too_large(12, link, left, right)
                self.too_large(12, link, left, outer)
                self.assertEqual(len(link(left, outer, (((0, "xa"), (0, "xb")),))[3]), 12)
                self.assertEqual(len(link(left, right, (((0, "xa"), (1, "ya")),))[2]), 12)
                with self.assertRaises(TooLarge):
                    link(left, right, (((0, "xa"), (1, "ya")),), kept=((1, "ya"),))

    def too_large(self, limit, call, *given):
        with self.assertRaises(TooLarge) as caught:
            call(*given, ())
        self.assertEqual(caught.exception.limit, limit)

    def test_name_conflicts(self):
        names = (("a", 0), ("b", 0), ("c", 0))
        first = (AB, 60, names, ("out",), ())
        second = (AB, 60, names[1:] + (("d", 0),), ("end",), ())
        for wires, kept, name in (((), (), "b"), ((((0, "out"), (0, "b")),), (), "c"), ((((0, "out"), (1, "b")),), (), "c"),
                                  ((((0, "out"), (0, "b")),), ((0, "b"),), "b")):
            with self.assertRaises(NameConflict) as caught:
                link(first, second, wires, kept=kept)
            self.assertEqual(caught.exception.name, name)
        wires = (((0, "out"), (0, "b")), ((1, "end"), (1, "c")))
        self.too_large_with(wires, first, second)
        small = [module[:1] + (50,) + module[2:] for module in (first, second)]
        self.assertEqual(link(*small, wires)[2], (("a", 0), ("b", 50), ("c", 0), ("d", 50)))

    def too_large_with(self, wires, first, second):
        with self.assertRaises(TooLarge) as caught:
            link(first, second, wires)
        self.assertEqual(caught.exception.limit, 100)

    def test_errors(self):
        wires = (2, WRONG_WIRES, InvalidWires, None)
        kept = ("kept", WRONG_KEPT, InvalidWires, None)
        check_errors(self, link, {0: D, 1: E, 2: W}, [MODULES, WRONG_SECOND, wires])
        check_errors(self, link, {0: D, 1: E, 2: W, "kept": ((0, "in"), (1, "cut"))}, [MODULES, WRONG_SECOND, wires, kept])
        # Without wires there is nothing to keep, and both have the entry in.
        self.assertRaises(InvalidWires, link, D, D, (), kept=((0, "in"),))
        self.assertRaises(InvalidWires, link, D, D, W, kept=((0, "in"),))
        self.assertRaises(NameConflict, link, D, D, (((0, "out"), (1, "in")),), kept=((1, "in"),))


class LinkSelfTest(unittest.TestCase):
    def test_results_by_visits(self):
        draw = random.Random(72)
        for module in make_random_modules(73, 60, AB, 3, 2) + make_keeping_modules(74, 40):
            names = [name for name, _ in module[2]]
            wires = tuple((door, draw.choice(names)) for door in module[3] if draw.random() < 0.7)
            kept = tuple(sorted(set(name for _, name in wires if draw.random() < 0.8)))
            own = link_self(module, wires, kept=kept)
            self.assertIs(is_module(own), True)
            self.assertEqual(own[:2], module[:2])
            self.assertEqual(own[3], tuple(door for door in module[3] if door not in dict(wires)))
            self.assertEqual(own[2], tuple(entry for entry in module[2] if entry[0] not in dict(wires).values() or entry[0] in kept))
            sided = [((0, door), (0, name)) for door, name in wires]
            for name, _ in own[2]:
                for stack in stacks(AB, 3):
                    self.assertEqual(result(own, name, stack), visits([Walks(module, 300)], sided, (0, name), stack, 300))

    def test_rules(self):
        module = (AB, 3, (("one", 2), ("two", 1)), ("end", "out"), ((0, "", "end", ("a",)), (0, "a", "out", ()), (1, "b", 0, ())))
        self.assertEqual(link_self(module, ()), module)
        self.assertEqual(link_self(module, (("end", "one"), ("out", "one"))), (AB, 3, (("two", 1),), (), (
            (0, "", 2, ("a",)), (0, "a", 2, ()), (1, "b", 0, ()))))
        self.assertEqual(link_self(module, (("out", "two"),), kept=("two",)), (AB, 3, module[2], ("end",), (
            (0, "", "end", ("a",)), (0, "a", 1, ()), (1, "b", 0, ()))))

    def test_errors(self):
        wires = (1, ODD + ((("more", "out"),), (("in", "in"),), (("more", "in"), ("done", "in")), (("done", "in"), ("done", "in")),
                           (("more",),), (("more", "in", "in"),), (["more", "in"],), [("more", "in")], ("more", "in"),
                           (((0, "more"), (0, "in")),), ((None, "in"),), (("more", None),), ((["more"], "in"),), {}, "", 0),
                 InvalidWires, None)
        kept = ("kept", ODD + (("in", "in"), ("more",), ["in"], "in", (("in",),), ((0, "in"),), (None,), ("out",), {}, ""),
                InvalidWires, None)
        check_errors(self, link_self, {0: H, 1: (("more", "in"),)}, [MODULES, wires])
        check_errors(self, link_self, {0: H, 1: (("more", "in"),), "kept": ("in",)}, [MODULES, wires, kept])
        two = (AB, 1, (("in", 0), ("on", 0)), ("a", "b"), ())
        self.assertRaises(InvalidWires, link_self, two, (("a", "in"), ("b", "on")), kept=("on", "in"))
        self.assertRaises(InvalidWires, link_self, two, (("a", "in"),), kept=("on",))
        self.assertEqual(link_self(two, (("a", "in"), ("b", "on")), kept=("in", "on")), two[:3] + ((), ()))


class RenameTest(unittest.TestCase):
    def test_all_names_change_at_once(self):
        module = (AB, 3, (("a", 2), ("b", 0), ("c", 1)), ("a", "b", "d"), (
            (0, "", "a", ()), (0, "a", "b", ("a",)), (0, "b", 1, ()), (1, "", "d", ())))
        self.assertEqual(rename(module), module)
        self.assertEqual(rename(module, entries=(("a", "a"),), exits=(("b", "b"),)), module)
        self.assertEqual(rename(module, entries=(("a", "b"), ("b", "a"))), module[:2] + ((("a", 0), ("b", 2), ("c", 1)),) + module[3:])
        self.assertEqual(rename(module, entries=(("a", "b"), ("b", "c"), ("c", "a")))[2], (("a", 1), ("b", 2), ("c", 0)))
        self.assertEqual(rename(module, entries=(("a", "zz"),))[2], (("b", 0), ("c", 1), ("zz", 2)))
        self.assertEqual(rename(module, exits=(("a", "b"), ("b", "a")))[3:], (("a", "b", "d"), (
            (0, "", "b", ()), (0, "a", "a", ("a",)), (0, "b", 1, ()), (1, "", "d", ()))))
        self.assertEqual(rename(module, exits=(("a", "d"), ("d", "x")))[3:], (("b", "d", "x"), (
            (0, "", "d", ()), (0, "a", "b", ("a",)), (0, "b", 1, ()), (1, "", "x", ()))))

    def test_exits_become_one(self):
        module = (AB, 1, (("in", 0),), ("a", "b", "c"), ((0, "", "a", ()), (0, "a", "b", ("a",)), (0, "b", "c", ())))
        self.assertEqual(rename(module, exits=(("a", "c"), ("b", "c")))[3:], (("c",), (
            (0, "", "c", ()), (0, "a", "c", ("a",)), (0, "b", "c", ()))))
        self.assertEqual(rename(module, exits=(("a", "b"), ("b", "c")))[3:], (("b", "c"), (
            (0, "", "b", ()), (0, "a", "c", ("a",)), (0, "b", "c", ()))))
        self.assertEqual(rename(module, entries=(("in", "a"),), exits=(("a", "in"),))[2:4], ((("a", 0),), ("b", "c", "in")))

    def test_name_conflicts(self):
        module = (AB, 3, (("a", 2), ("b", 0), ("c", 1)), ("out",), ())
        for entries, name in (((("a", "b"),), "b"), ((("a", "c"), ("b", "a")), "c"), ((("a", "x"), ("c", "x")), "x"),
                              ((("a", "c"), ("b", "c")), "c")):
            with self.assertRaises(NameConflict) as caught:
                rename(module, entries=entries)
            self.assertEqual(caught.exception.name, name)
        two = (AB, 1, (("a", 0), ("b", 0), ("c", 0), ("d", 0)), (), ())
        with self.assertRaises(NameConflict) as caught:
            rename(two, entries=(("a", "z"), ("b", "z"), ("c", "y"), ("d", "y")))
        self.assertEqual(caught.exception.name, "y")

    def test_errors(self):
        wrong = ODD + ((("out", "a"), ("low", "b")), (("low", "a"), ("low", "b")), (("zz", "a"),), (("low", "A"),), (("low", ""),),
                       (("low", "abcdefghi"),), (("low", None),), (("low",),), (("low", "a", "b"),), (["low", "a"],), [("low", "a")],
                       ("low", "a"), {"low": "a"}, ((None, "a"),), ((["low"], "a"),), "", 0)
        entries = tuple(tuple(("in",) + part[1:] if isinstance(part, tuple) and part[:1] == ("low",) else part for part in value)
                        if isinstance(value, tuple) else value for value in wrong)
        entries = ("entries", tuple(value for value in entries if value != (("in", "a"),)), InvalidWires, None)
        exits = ("exits", wrong, InvalidWires, None)
        check_errors(self, rename, {0: D}, [MODULES])
        check_errors(self, rename, {0: D, "entries": (("in", "a"),), "exits": (("low", "a"), ("out", "b"))}, [MODULES, entries, exits])
        two = (AB, 1, (("a", 0), ("b", 0)), ("out",), ())
        self.assertRaises(InvalidWires, rename, two, entries=(("a", "b"),), exits=(("a", "b"),))
        self.assertRaises(InvalidWires, rename, two, entries=(("b", "c"), ("a", "d")))

    def test_results(self):
        for module in (D, M, C):
            other = rename(module, entries=(("in", "on"),), exits=(("out", "end"),))
            for stack in stacks(AB, 3):
                told = result(module, "in", stack)
                if told is not None and told[0] == "out":
                    told = ("end",) + told[1:]
                self.assertEqual(result(other, "on", stack), told)


if __name__ == "__main__":
    unittest.main()
