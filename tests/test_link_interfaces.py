import copy
import itertools
import random
import unittest

from piledoors.errors import InvalidInterface, InvalidWires, NameConflict, TooLarge
from piledoors.interfaces.interfaces import interface, interface_result, is_interface
from piledoors.linking.interfaces import link_interfaces, link_self_interface, rename_interface
from piledoors.linking.link import link, link_self, rename
from tests.samples import (AB, C, D, E, G, H, M, N, ODD, T, V, check_errors, make_keeping_modules, make_linked,
                           make_random_modules, putting_back, stacks, visits)
from tests.test_interfaces import STRANGE
from tests.test_link import W, WRONG_KEPT, WRONG_WIRES

WRONG = ODD + (D, interface(D)[:4], interface(D)[:4] + (interface(D)[4] * 2,))
WRONG_INTERFACES = (0, WRONG, InvalidInterface, None)


class Asked:
    """A part whose results are asked for at its interface."""

    def __init__(self, told):
        self.told = told
        self.known = {}

    def result(self, entry, stack):
        if (entry, stack) not in self.known:
            self.known[(entry, stack)] = interface_result(self.told, entry, stack)
        return self.known[(entry, stack)]


def random_interfaces(seed, many, clock):
    """Interfaces that mostly no module has, with entries that leave at once and ticks of any sign."""
    draw = random.Random(seed)
    found = []
    while len(found) < many:
        classes = draw.randint(0, 3)

        def outcome(word, kinds):
            kind = draw.choice(kinds)
            ticks = draw.randint(-3, 3) if clock else 0
            if kind == "class":
                return ("class", draw.randrange(classes), ticks) if classes else ("never",)
            word = tuple(draw.choice(AB) for _ in range(draw.choice([0, 1, 2]))) + word
            return ("exit", draw.choice(("low", "out")), word, ticks) if kind == "exit" else ("never",)

        every = ("exit", "exit", "never", "class", "class", "class")
        rows = tuple((outcome((), every[:3]),) + tuple(outcome((label,), every) for label in AB) for _ in range(classes))
        entries = tuple((name, outcome((), every[1:])) for name in ("ea", "eb")[:draw.randint(1, 2)])
        told = (AB, ("low", "out"), clock, entries, rows)
        told = rename_interface(told) if is_interface(told) else canonical(told)
        if told is not None and is_interface(told):
            found.append(told)
    return found


def canonical(told):
    """The interface with the numbers and ticks of something that has none, or None: tried by all orders of its rows."""
    for order in itertools.permutations(range(len(told[4]))):
        turn = lambda one: ("class", order[one[1]], one[2]) if one[0] == "class" else one
        rows = sorted((order[at], tuple(turn(one) for one in row)) for at, row in enumerate(told[4]))
        other = told[:3] + (tuple((name, turn(one)) for name, one in told[3]), tuple(row for _, row in rows))
        if is_interface(other):
            return other
    return None


class ExamplesTest(unittest.TestCase):
    def test_examples(self):
        both = ((0, "in"), (1, "cut"))
        self.assertEqual(link_interfaces(interface(D), interface(E), W, kept=both), (
            ("a", "b"), ("low",), False, (("cut", ("class", 0, 0)), ("in", ("class", 1, 0))), (
                (("never",), ("never",), ("class", 1, 0)), (("exit", "low", (), 0), ("class", 1, 0), ("class", 1, 0)))))
        self.assertEqual(link_interfaces(interface(D, clock=True), interface(E, clock=True), W, kept=both)[3:], (
            (("cut", ("class", 0, 2)), ("in", ("class", 1, 1))), (
                (("never",), ("never",), ("class", 1, 0)), (("exit", "low", (), 0), ("class", 1, 1), ("class", 1, 2)))))
        self.assertEqual(rename_interface(interface(D), exits=(("low", "done"), ("out", "done"))), (
            ("a", "b"), ("done",), False, (("in", ("class", 0, 0)),), (
                (("exit", "done", (), 0), ("class", 0, 0), ("exit", "done", ("b",), 0)),)))


class ModulesTest(unittest.TestCase):
    def test_linked_modules(self):
        kinds = set()
        for first, second, wires, kept in make_linked(91, 250):
            for clock in (False, True):
                told = link_interfaces(interface(first, clock=clock), interface(second, clock=clock), wires, kept=kept)
                self.assertEqual(told, interface(link(first, second, wires, kept=kept), clock=clock), (first, second, wires))
                kinds |= {(outcome[0], len(told[4]) > 2) for _, outcome in told[3]}
        self.assertEqual(len(kinds), 6)

    def test_one_module(self):
        draw = random.Random(92)
        for module in make_random_modules(93, 100, AB, 3, 2) + make_keeping_modules(94, 60):
            names = [name for name, _ in module[2]]
            wires = tuple((door, draw.choice(names)) for door in module[3] if draw.random() < 0.7)
            kept = tuple(sorted(set(name for _, name in wires if draw.random() < 0.8)))
            entries = dict(zip(names, draw.sample(names + ["xa", "xb"], len(names))))
            entries = tuple((name, entries[name]) for name in names)
            exits = tuple((door, draw.choice(["low", "out", "end"])) for door in module[3] if draw.random() < 0.7)
            for clock in (False, True):
                told = interface(module, clock=clock)
                self.assertEqual(link_self_interface(told, wires, kept=kept), interface(link_self(module, wires, kept=kept), clock=clock))
                self.assertEqual(rename_interface(told, entries=entries, exits=exits),
                                 interface(rename(module, entries=entries, exits=exits), clock=clock))
                self.assertEqual(rename_interface(told), told)
                self.assertEqual(link_self_interface(told, ()), told)

    def test_samples(self):
        for first in (D, N, M, C, G, T, V, H):
            second = rename(M, entries=(("in", "on"),))
            for clock in (False, True):
                told = [interface(module, clock=clock) for module in (first, second)]
                for door in first[3]:
                    wires = (((0, door), (1, "on")), ((1, "out"), (0, "in")))
                    for kept in ((), ((0, "in"),), ((1, "on"),), ((0, "in"), (1, "on"))):
                        self.assertEqual(link_interfaces(*told, wires, kept=kept),
                                         interface(link(first, second, wires, kept=kept), clock=clock))

    def test_many_classes(self):
        """Two modules of 96 states, most of which are classes with clock: the linked one could be no module."""
        whole = putting_back(90, ("a",))
        both = link_interfaces(interface(whole, clock=True), rename_interface(interface(whole, clock=True), entries=(("in", "on"),)),
                               (((0, "out"), (1, "on")),), kept=((1, "on"),))
        self.assertIs(is_interface(both), True)
        self.assertGreater(len(both[4]), 100)
        one = interface(whole, clock=True)
        for many in (0, 1, 89, 90, 91, 200):
            stack = ("a",) * many
            more = interface_result(one, "in", stack)[2]
            self.assertEqual(interface_result(both, "in", stack), ("out", stack, 2 * more))
            self.assertEqual(interface_result(both, "on", stack), ("out", stack, more))
        without = link_interfaces(interface(whole), rename_interface(interface(whole), entries=(("in", "on"),)),
                                  (((0, "out"), (1, "on")),), kept=((1, "on"),))
        self.assertEqual(without[3:], ((("in", ("exit", "out", (), 0)), ("on", ("exit", "out", (), 0))), ()))

    def test_large(self):
        labels = tuple("abcdefghijkl")
        rules = [(state, label, (state + at + 1) % 100, ()) for state in range(100) for at, label in enumerate(labels)]
        first = (labels, 100, (("in", 0),), ("out",), tuple(sorted(rules + [(99, "", "out", labels)])))
        wires = (("out", "in"),)
        for clock in (False, True):
            told = interface(first, clock=clock)
            self.assertEqual(link_self_interface(told, wires, kept=("in",)), interface(link_self(first, wires, kept=("in",)), clock=clock))
            other = rename_interface(told, entries=(("in", "on"),), exits=(("out", "end"),))
            both = link_interfaces(told, other, (((0, "out"), (1, "on")),))
            self.assertIs(is_interface(both), True)
            for stack in (labels * 3, ("l",) * 9, ()):
                self.assertEqual(interface_result(both, "in", stack), visits([Asked(told), Asked(other)], (((0, "out"), (1, "on")),),
                                                                             (0, "in"), stack, 0))


class StrangeTest(unittest.TestCase):
    """Interfaces that no module has."""

    def check(self, parts, wires, kept, longest=3, asked=None):
        both = link_interfaces(*parts, wires, kept=kept)
        asked = asked or [Asked(told) for told in parts]
        self.assertIs(is_interface(both), True)
        reached = [entry for _, entry in wires]
        doors = {name: (side, name) for side, told in enumerate(parts) for name, _ in told[3]}
        left = sorted(name for name, door in doors.items() if door not in reached or door in kept)
        self.assertEqual([name for name, _ in both[3]], left)
        for name in left:
            for stack in stacks(AB, longest):
                self.assertEqual(interface_result(both, name, stack), visits(asked, wires, doors[name], stack, 0),
                                 (parts, wires, name, stack))
        return both

    def test_random_interfaces(self):
        draw = random.Random(95)
        for clock in (False, True):
            found = random_interfaces(96, 60, clock)
            for _ in range(120):
                first, second = draw.sample(found, 2)
                second = rename_interface(second, entries=tuple((name, "f" + name) for name, _ in second[3]))
                doors = [(side, door) for side in (0, 1) for door in ("low", "out")]
                entries = [(side, name) for side, told in enumerate((first, second)) for name, _ in told[3]]
                wires = tuple((door, draw.choice(entries)) for door in doors if draw.random() < 0.7)
                kept = tuple(sorted(set(entry for _, entry in wires)))
                self.check((first, second), wires, kept)
                own = tuple((door, draw.choice(first[3])[0]) for door in ("low", "out") if draw.random() < 0.7)
                kept = tuple(sorted(set(name for _, name in own)))
                told = link_self_interface(first, own, kept=kept)
                self.assertIs(is_interface(told), True)
                sided = [((0, door), (0, name)) for door, name in own]
                for name, _ in first[3]:
                    for stack in stacks(AB, 3):
                        self.assertEqual(interface_result(told, name, stack), visits([Asked(first)], sided, (0, name), stack, 0))

    def test_strange(self):
        parts = STRANGE, rename_interface(STRANGE, entries=(("a", "d"), ("b", "e"), ("c", "f")))
        asked = [Asked(told) for told in parts]
        for ways in itertools.product(((1, "d"), (1, "e"), (0, "b"), None), repeat=4):
            doors = ((0, "low"), (0, "out"), (1, "low"), (1, "out"))
            wires = tuple((door, way) for door, way in zip(doors, ways) if way)
            self.check(parts, wires, tuple(sorted(set(way for way in ways if way))), 2, asked)

    def test_rings_of_entries_that_leave_at_once(self):
        """Each of twelve entries leaves at once by an exit that is wired to the next one. The last one is wired or not."""
        names = tuple("abcdefghijkl")
        first = (AB, names, True, tuple((name, ("exit", name, ("a", "b")[:at % 3], at - 5)) for at, name in enumerate(names)), ())
        self.assertIs(is_interface(first), True)
        around = tuple((door, name) for door, name in zip(names, names[1:] + names[:1]))
        told = link_self_interface(first, around, kept=names)
        self.assertEqual(told, (AB, (), True, tuple((name, ("never",)) for name in names), ()))
        told = link_self_interface(first, around[:-1], kept=names[1:])
        self.assertEqual(told[1:3], (("l",), True))
        for at, name in enumerate(names):
            word = ()
            for place in range(at, 12):
                word = ("a", "b")[:place % 3] + word
            self.assertEqual(told[3][at], (name, ("exit", "l", word, sum(range(at - 5, 7)))))
        second = rename_interface(first, entries=tuple((name, name * 2) for name in names))
        wires = tuple(((side, door), (1 - side, name * 2 if side == 0 else name)) for side in (0, 1) for door, name in around)
        self.assertEqual(link_interfaces(first, second, wires)[3:], ((), ()))
        both = link_interfaces(first, second, wires[:-1])
        self.assertEqual(both[3:], ((("a", ("exit", "l", *both[3][0][1][2:])),), ()))
        self.assertEqual(interface_result(both, "a", ("b",)), visits([Asked(first), Asked(second)], wires[:-1], (0, "a"), ("b",), 0))

    def test_words_that_are_read_in_part(self):
        """An entry leaves at once with a word; the entry to which it is wired reads a part of it, or all, or more."""
        word = ("a",) * 5 + ("b", "a")
        first = (AB, ("out",), False, (("in", ("exit", "out", word, 0)),), ())
        removing = rename(D, entries=(("in", "on"),))
        wires = (((0, "out"), (1, "on")),)
        self.assertEqual(link_interfaces(first, interface(removing), wires)[3:], ((("in", ("exit", "out", ("b", "a"), 0)),), ()))
        for many in (0, 1, 6, 7, 8, 9):
            rules = [(state, label, state + 1, ()) for state in range(many) for label in AB]
            rules += [(many, "", "low", ()), (many, "a", "out", ()), (many, "b", "low", ("b",))]
            second = interface((AB, many + 1, (("on", 0),), ("low", "out"), tuple(rules)))
            self.check((first, second), wires, ((1, "on"),), 4)
        stuck = interface((AB, 1, (("on", 0),), ("low",), ((0, "a", 0, ()),)))
        self.assertEqual(link_interfaces(first, stuck, wires)[3], (("in", ("never",)),))

    def test_exits_that_become_one(self):
        """Classes that differ only by their exits are one class then, or are settled."""
        keep = ((("exit", "low", (), 0), ("exit", "out", ("a",), 0), ("exit", "low", ("b",), 0)),
                (("exit", "out", (), 0), ("exit", "low", ("a",), 0), ("exit", "low", ("b",), 0)))
        told = (AB, ("low", "out"), False, (("a", ("class", 0, 0)), ("b", ("class", 1, 0))), keep)
        self.assertIs(is_interface(told), True)
        self.assertEqual(rename_interface(told, exits=(("low", "out"),)), (
            AB, ("out",), False, (("a", ("exit", "out", (), 0)), ("b", ("exit", "out", (), 0))), ()))
        rows = tuple(row[:2] + (("never",),) for row in keep)
        told = told[:4] + (rows,)
        self.assertIs(is_interface(told), True)
        self.assertEqual(rename_interface(told, exits=(("low", "z"), ("out", "z")))[3:], (
            (("a", ("class", 0, 0)), ("b", ("class", 0, 0))), ((("exit", "z", (), 0), ("exit", "z", ("a",), 0), ("never",)),)))
        self.assertEqual(rename_interface(told, exits=(("low", "out"), ("out", "low")))[3:], (told[3], rows[::-1]))

    def test_entries_in_another_order(self):
        told = rename_interface(STRANGE, entries=(("a", "c"), ("c", "a")))
        self.assertEqual(told[3], (("a", STRANGE[3][2][1]), STRANGE[3][1], ("c", STRANGE[3][0][1])))
        rows = tuple((("exit", "out", ("a",) * at, 0), ("never",), ("never",)) for at in range(2))
        told = (AB, ("out",), True, (("a", ("class", 0, 1)), ("b", ("class", 1, 2))), rows)
        self.assertEqual(rename_interface(told, entries=(("a", "b"), ("b", "a")))[3:], (
            (("a", ("class", 0, 2)), ("b", ("class", 1, 1))), rows[::-1]))


class ErrorsTest(unittest.TestCase):
    def test_link_interfaces(self):
        first, second = interface(D), interface(E)
        others = WRONG + (interface(E, clock=True), (("a", "b", "c"), ("next",), False, (("cut", ("never",)),), ()))
        others = (1, others, InvalidInterface, None)
        wires = (2, WRONG_WIRES, InvalidWires, None)
        kept = ("kept", WRONG_KEPT, InvalidWires, None)
        check_errors(self, link_interfaces, {0: first, 1: second, 2: W}, [WRONG_INTERFACES, others, wires])
        check_errors(self, link_interfaces, {0: first, 1: second, 2: W, "kept": ((0, "in"), (1, "cut"))},
                     [WRONG_INTERFACES, others, wires, kept])
        self.assertRaises(InvalidInterface, link_interfaces, interface(D, clock=True), second, W)
        self.assertRaises(InvalidWires, link_interfaces, first, first, (), kept=((0, "in"),))

    def test_conflicts_and_limits(self):
        with self.assertRaises(NameConflict) as caught:
            link_interfaces(interface(D), interface(C), ())
        self.assertEqual(caught.exception.name, "in")
        names = tuple("x" + letter for letter in "abcdefghijklm")
        part = (AB, names[:6], False, tuple((name, ("never",)) for name in names[:6]), ())
        for many in (6, 7):
            right = (AB, (), False, tuple(("y" + name, ("never",)) for name in names[:many]), ())
            outer = (AB, tuple("y" + name for name in names[:many]), False, (), ())
            if many == 6:
                self.assertEqual([len(link_interfaces(part, right, ())[3]), len(link_interfaces(part, outer, ())[1])], [12, 12])
                continue
            for other in (right, outer):
                with self.assertRaises(TooLarge) as caught:
                    link_interfaces(part, other, ())
                self.assertEqual(caught.exception.limit, 12)
            self.assertEqual(len(link_interfaces(part, right, (((0, "xa"), (1, "yxa")),))[3]), 12)
            self.assertEqual(len(link_interfaces(part, outer, (((0, "xa"), (0, "xa")),))[1]), 12)
        both = (AB, names[:12], False, part[3] + (("z", ("never",)),), ())
        with self.assertRaises(NameConflict) as caught:
            link_interfaces(both, both[:1] + (("a",),) + both[2:], ())
        self.assertEqual(caught.exception.name, "xa")

    def test_one_interface(self):
        wires = (1, ODD + ((("more", "out"),), (("in", "in"),), (("more", "in"), ("done", "in")), (("done", "in"), ("done", "in")),
                           (["more", "in"],), [("more", "in")], ("more", "in"), (((0, "more"), (0, "in")),), {}, "", 0),
                 InvalidWires, None)
        kept = ("kept", ODD + (("in", "in"), ("more",), ["in"], "in", (("in",),), ((0, "in"),), {}, ""), InvalidWires, None)
        check_errors(self, link_self_interface, {0: interface(H), 1: (("more", "in"),)}, [WRONG_INTERFACES, wires])
        check_errors(self, link_self_interface, {0: interface(H, clock=True), 1: (("more", "in"),), "kept": ("in",)},
                     [WRONG_INTERFACES, wires, kept])
        entries = ("entries", ODD + ((("out", "a"),), (("in", "A"),), (("in", "a"), ("in", "b")), (("in",),), [("in", "a")],
                                     (["in", "a"],), {"in": "a"}, ""), InvalidWires, None)
        exits = ("exits", ODD + ((("out", "a"), ("low", "b")), (("low", "a"), ("low", "b")), (("in", "a"),), (("low", ""),),
                                 (("low",),), [("low", "a")], {"low": "a"}, ""), InvalidWires, None)
        check_errors(self, rename_interface, {0: interface(D)}, [WRONG_INTERFACES])
        check_errors(self, rename_interface, {0: interface(D), "entries": (("in", "a"),), "exits": (("low", "a"),)},
                     [WRONG_INTERFACES, entries, exits])
        for changes, name in (((("a", "b"),), "b"), ((("a", "x"), ("c", "x")), "x")):
            with self.assertRaises(NameConflict) as caught:
                rename_interface(STRANGE, entries=changes)
            self.assertEqual(caught.exception.name, name)

    def test_nothing_is_changed(self):
        parts = (interface(D, clock=True), interface(E, clock=True), W, ((0, "in"), (1, "cut")))
        before = copy.deepcopy(parts)
        told = link_interfaces(*parts[:3], kept=parts[3])
        self.assertEqual(link_interfaces(*parts[:3], kept=parts[3]), told)
        self.assertEqual(parts, before)


if __name__ == "__main__":
    unittest.main()
