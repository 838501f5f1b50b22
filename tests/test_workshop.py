import copy
import random
import unittest

from piledoors.compare.equivalence import are_equivalent
from piledoors.errors import (InvalidEdit, InvalidLabels, InvalidModule, InvalidNumber, InvalidRule, InvalidStack, InvalidWires,
                              NameConflict, NothingToUndo, TooLarge, UnknownEntry, UnknownModule, UnknownState)
from piledoors.interfaces.interfaces import interface
from piledoors.linking.link import link
from piledoors.modules.modules import with_rule, without_rule
from piledoors.results.results import result
from piledoors.summaries.summaries import summaries, summary, visited_heads
from piledoors.workshop.workshop import MAX_MODULES, Workshop
from tests.samples import (AB, B, C, D, E, G, H, M, N, ODD, T, chain, check_errors, make_random_modules, random_wires, ring, stacks)
from tests.test_link import WRONG_KEPT, WRONG_WIRES

TWELVE = tuple("abcdefghijkl")
OTHER = (("a", "b", "c"),) + D[1:]
NO_NAMES = ("", "A", "ninechars", "a b", "a1", None, 0, True, ("d",), ["d"], {}, b"d", D)
NO_MODULES = ODD + (OTHER,)
UNKNOWN = ("x", "", "D", None, 0, True, ("d",), ["d"], {}, D)
NO_EDITS = ODD + (("add",), ("add", "x"), ("add", "x", D, 0), ("link", "x", "d", "c", ()), ("link", "x", "d", "c", (), (), ()), ("remove",),
                  ("remove", "d", "c"), ("set", "d", 0, "a", 0), ("set", "d", (0, "a", 0, ())), ("clear", "d", 0), ("clear", "d", 0, "a", 0),
                  ["remove", "d"], ("Remove", "d"), ("undo", 1), ((), "d"), (["remove"], "d"), ({}, "d"), (None, "d"), (0, "d"), ("",), ())


class Model:
    """A workshop by 17.1 to 17.4: the edits that stand are performed anew, one after another, on plain modules."""

    def __init__(self):
        self.edits = []
        self.standing = 0
        self.computed = 0

    def contents(self):
        found = {}
        for edit in self.edits[:self.standing]:
            if edit[0] in ("add", "link"):
                found[edit[1]] = edit[2] if edit[0] == "add" else edit[2:]
            elif edit[0] == "remove":
                del found[edit[1]]
            elif edit[0] == "set":
                found[edit[1]] = with_rule(found[edit[1]], edit[2:])
            else:
                found[edit[1]] = without_rule(found[edit[1]], *edit[2:])
        return found

    def modules(self):
        found = {}
        for name, told in self.contents().items():
            found[name] = told if len(told) == 5 else link(found[told[0]], found[told[1]], told[2], kept=told[3])
        return {name: found[name] for name in sorted(found)}

    def perform(self, edit):
        contents, modules = self.contents(), self.modules()
        self.edits = self.edits[:self.standing] + [edit]
        self.standing += 1
        if edit[0] in ("add", "link"):
            module = self.modules()[edit[1]]
            self.computed += module[1] * (1 + len(module[0]))
        elif edit[0] in ("set", "clear"):
            for name in modules:
                stems = self.stems(contents, modules, name, edit[1], edit[2:4])
                for head in summaries(modules[name]):
                    self.computed += bool(stems & set(visited_heads(modules[name], *head))) if stems else 0

    def stems(self, contents, modules, name, edited, head):
        """The heads of a module that stem from the edited head."""
        if name == edited:
            return {head}
        if len(contents[name]) == 5:
            return set()
        found = set()
        for side, part in enumerate(contents[name][:2]):
            first = side * modules[contents[name][0]][1]
            found |= {(first + state, top) for state, top in self.stems(contents, modules, part, edited, head)}
        return found

    def users(self, name):
        found = set()
        for each, told in self.contents().items():
            if len(told) == 4 and {told[0], told[1]} & (found | {name}):
                found.add(each)
        return tuple(sorted(found))


def random_edit(draw, model, fresh):
    """An edit that can be performed, or None."""
    contents, modules = model.contents(), model.modules()
    names = [name for name in ("a", "b", "c", "d", "e", "f", "g") if name not in contents]
    kind = draw.choice(["add", "link", "link", "remove", "set", "set", "set", "clear", "clear"])
    own = [name for name, told in contents.items() if len(told) == 5]
    if kind == "add" and names and len(own) < 4:
        return ("add", draw.choice(names), fresh.pop())
    if kind == "link" and names and modules:
        first, second = draw.choice(list(modules)), draw.choice(list(modules))
        if modules[first][1] + modules[second][1] <= 12:
            has_entries = modules[first][2] or modules[second][2]
            wires, kept = random_wires(draw, modules[first], modules[second]) if has_entries else ((), ())
            edit = ("link", draw.choice(names), first, second, wires, kept)
            try:
                link(modules[first], modules[second], wires, kept=kept)
            except (NameConflict, TooLarge):
                return None
            return edit
    free = [name for name in contents if not model.users(name)]
    if kind == "remove" and free and draw.random() < 0.5:
        return ("remove", draw.choice(free))
    if kind in ("set", "clear") and own:
        name = draw.choice(own)
        labels, size, _, exits, rules = contents[name]
        if kind == "clear" and rules:
            return ("clear", name) + draw.choice(rules)[:2]
        if draw.random() < 0.2 and rules:
            return ("set", name) + draw.choice(rules)
        target = draw.choice(list(range(size)) * 2 + list(exits))
        push = tuple(draw.choice(labels) for _ in range(draw.choice([0, 0, 1, 2])))
        return ("set", name, draw.randrange(size), draw.choice(("",) + labels), target, push)
    return None


def make_fresh(seed):
    modules = []
    for at, module in enumerate(make_random_modules(seed, 60, AB, 3, 2)):
        letter = "abcdefghijklmnopqrstuvwxyz"[at % 26]
        entries = tuple((name + letter, state) for name, state in module[2][:2])
        modules.append(module[:2] + (entries,) + module[3:])
    return modules


def make_workshop():
    workshop = Workshop(AB)
    workshop.add("d", D)
    workshop.add("c", C)
    workshop.link("both", "d", "c", (((0, "out"), (1, "in")),))
    return workshop


def state_of(workshop):
    """All that a workshop tells."""
    return (workshop.labels(), workshop.names(), workshop.log(), workshop.computed(), len(workshop), str(workshop),
            [workshop.module(name) for name in workshop.names()], [workshop.users(name) for name in workshop.names()])


class ExamplesTest(unittest.TestCase):
    def test_examples(self):
        w = Workshop(("a", "b"))
        self.assertIsNone(w.add("d", D))
        self.assertIsNone(w.add("c", C))
        self.assertIsNone(w.link("both", "d", "c", (((0, "out"), (1, "in")),)))
        self.assertEqual([w.result("both", "in", ("a", "b")), w.computed(), str(w)], [("out", (), 6), 12, "workshop with 3 modules, 3 edits"])
        self.assertIsNone(w.set_rule("c", 0, "b", 0, ()))
        self.assertEqual([w.result("both", "in", ("a", "b")), w.computed()], [("out", (), 4), 15])
        self.assertIsNone(w.undo())
        self.assertEqual([w.result("both", "in", ("a", "b")), w.computed()], [("out", (), 6), 15])
        self.assertEqual(MAX_MODULES, 20)


class EditsTest(unittest.TestCase):
    def check(self, workshop, model, draw):
        modules = model.modules()
        self.assertEqual(workshop.names(), tuple(modules))
        self.assertEqual(workshop.log(), tuple(model.edits[:model.standing]))
        self.assertEqual(workshop.computed(), model.computed)
        self.assertEqual(len(workshop), len(modules))
        self.assertEqual(str(workshop), f"workshop with {len(modules)} modules, {model.standing} edits")
        for name, module in modules.items():
            self.assertEqual(workshop.module(name), module)
            self.assertEqual({head: workshop.summary(name, *head) for head in summaries(module)}, summaries(module))
            self.assertEqual(workshop.users(name), model.users(name))
            for entry, _ in module[2]:
                for stack in ((), ("a",), ("b", "a"), tuple(draw.choice(AB) for _ in range(5))):
                    self.assertEqual(workshop.result(name, entry, stack), result(module, entry, stack))

    def test_many_edits(self):
        """Random edits, undone and redone, against a plain list of the edits that stand."""
        draw = random.Random(191)
        kinds = {}
        counts = []
        for seed in range(60):
            fresh = make_fresh(seed)
            workshop, model = Workshop(AB), Model()
            for _ in range(45):
                before = model.computed
                many = draw.choice([1, 1, 2, 3])
                if draw.random() < 0.12 and model.standing >= many:
                    workshop.undo(many=many)
                    model.standing -= many
                elif draw.random() < 0.5 and model.standing + many <= len(model.edits):
                    workshop.redo(many=many)
                    model.standing += many
                else:
                    edit = random_edit(draw, model, fresh)
                    if edit is None:
                        continue
                    self.perform(workshop, edit, draw.random() < 0.5)
                    model.perform(edit)
                    kinds[edit[0]] = kinds.get(edit[0], 0) + 1
                    if edit[0] in ("set", "clear"):
                        counts.append(model.computed - before)
                self.check(workshop, model, draw)
            self.check_rebuilt(workshop, model)
        self.assertGreater(min(kinds[kind] for kind in ("add", "link", "remove", "set", "clear")), 25)
        self.assertLessEqual({1, 2, 3, 4, 5, 6, 7, 8}, set(counts))

    def perform(self, workshop, edit, directly):
        if directly:
            calls = {"add": workshop.add, "remove": workshop.remove, "set": workshop.set_rule, "clear": workshop.clear_rule}
            told = (workshop.link(*edit[1:5], kept=edit[5]) if edit[0] == "link" else calls[edit[0]](*edit[1:]))
        else:
            told = workshop.apply(edit)
        self.assertIsNone(told)

    def check_rebuilt(self, workshop, model):
        """The edits that stand, in a new workshop: all but the count is the same."""
        other = Workshop(AB)
        self.assertEqual(other.apply_all(workshop.log()), model.standing)
        self.assertEqual(state_of(other)[:3], state_of(workshop)[:3])
        self.assertEqual(state_of(other)[4:], state_of(workshop)[4:])
        self.assertEqual(other, workshop)
        self.assertLessEqual(other.computed(), workshop.computed())

    def test_interfaces_and_equivalence(self):
        workshop = Workshop(AB)
        for name, module in (("d", D), ("t", T), ("m", M), ("n", N), ("h", H)):
            workshop.add(name, module)
        workshop.link("dh", "d", "h", (((0, "low"), (1, "in")),))
        for name in workshop.names():
            for clock in (False, True):
                self.assertEqual(workshop.interface(name, clock=clock), interface(workshop.module(name), clock=clock))
            self.assertEqual(workshop.interface(name), interface(workshop.module(name)))
        for pair in (("d", "t"), ("m", "n"), ("n", "n"), ("t", "d")):
            modules = [workshop.module(name) for name in pair]
            for clock in (False, True):
                self.assertEqual(workshop.equivalent(*pair, clock=clock), are_equivalent(*modules, clock=clock))
            self.assertIs(workshop.equivalent(*pair), True)

    def test_links_of_links(self):
        """A link of links, one of which is a module that is linked with itself, follows the edits of all its parts."""
        workshop = Workshop(AB)
        workshop.add("h", H)
        workshop.link("twice", "h", "h", (((0, "more"), (1, "in")), ((1, "more"), (0, "in"))), kept=((0, "in"),))
        workshop.add("e", E)
        workshop.link("more", "twice", "e", (((0, "done"), (1, "cut")), ((1, "next"), (0, "in"))), kept=((0, "in"),))
        self.assertEqual(workshop.computed(), 3 + 6 + 3 + 9)
        self.assertEqual([workshop.users(name) for name in workshop.names()], [("more",), ("more", "twice"), (), ("more",)])
        self.assertEqual(workshop.module("twice"), link(H, H, workshop.log()[1][4], kept=((0, "in"),)))
        before = workshop.computed()
        workshop.clear_rule("h", 0, "b")
        # The head (0, b) alone is edited in h; in the links nothing else leads there, but both copies are edited, and
        # the head b of e goes on with what is below.
        self.assertEqual(workshop.computed() - before, 1 + 2 + 2)
        self.assertIsNone(workshop.result("more", "in", ("a", "b", "a")))
        workshop.undo()
        self.assertEqual(workshop.result("more", "in", ("a", "b", "b")), None)
        workshop.set_rule("h", 0, "", "more", ())
        self.assertEqual([workshop.result("h", "in", ()), workshop.result("twice", "in", ())], [("more", (), 1), None])

    def test_what_counts(self):
        workshop = Workshop(AB)
        self.assertEqual(workshop.computed(), 0)
        workshop.add("m", M)
        self.assertEqual(workshop.computed(), 9)
        for _ in range(3):
            workshop.set_rule("m", 1, "a", "out", ("a", "a"))
        self.assertEqual(workshop.computed(), 12)
        for call, error in ((lambda: workshop.set_rule("m", 1, "a", "low", ()), InvalidRule), (lambda: workshop.clear_rule("m", 1, "c"), InvalidStack),
                            (lambda: workshop.add("m", M), NameConflict), (lambda: workshop.remove("x"), UnknownModule),
                            (lambda: workshop.link("x", "m", "m", ()), NameConflict), (lambda: workshop.redo(), NothingToUndo)):
            self.assertRaises(error, call)
            self.assertEqual(workshop.computed(), 12)
        workshop.undo(many=3)
        workshop.redo(many=2)
        workshop.remove("m")
        workshop.undo()
        workshop.undo(many=3)
        self.assertEqual((workshop.computed(), len(workshop)), (12, 0))
        workshop.add("g", G)
        self.assertEqual(workshop.computed(), 15)
        workshop.set_rule("g", 0, "b", 0, ())
        # The label a is replaced by a, b and a; the first a comes back to itself, so b is not visited from there.
        self.assertEqual(workshop.computed(), 16)
        workshop.clear_rule("g", 0, "a")
        self.assertEqual(workshop.computed(), 17)

    def test_a_chain(self):
        """Through a chain of heads each one depends on the last one, and none on what is not visited."""
        module, row = chain(1300, ("out", ()))
        workshop = Workshop(module[0])
        workshop.add("m", module)
        self.assertEqual(workshop.computed(), 1300)
        workshop.set_rule("m", *(row[-1] + ("out", ("a",))))
        self.assertEqual(workshop.computed(), 2600)
        workshop.set_rule("m", *(row[0] + ("out", ("a",))))
        self.assertEqual(workshop.computed(), 2601)
        workshop.undo(many=2)
        self.assertEqual(workshop.result("m", "in", ()), result(module, "in", ()))

    def test_large(self):
        workshop = Workshop(TWELVE)
        whole = ring(50, lambda state: state == 7, TWELVE)
        workshop.add("a", whole)
        for at in range(18):
            workshop.link("b" + "abcdefghijklmnopqr"[at], "a", "a", (((0, "low"), (1, "in")),), kept=())
        self.assertEqual(workshop.computed(), 650 + 18 * 1300)
        for label in TWELVE:
            workshop.set_rule("a", 3, label, 49, (label,) * 20)
        self.assertEqual(len(workshop.users("a")), 18)
        for name in ("ba", "br"):
            module = link(workshop.module("a"), workshop.module("a"), (((0, "low"), (1, "in")),))
            self.assertEqual(workshop.module(name), module)
            self.assertEqual({head: workshop.summary(name, *head) for head in summaries(module)}, summaries(module))

    def test_twenty_modules(self):
        workshop = Workshop(AB)
        names = ["m" + letter for letter in "abcdefghijklmnopqrst"]
        for name in names:
            workshop.add(name, E)
        for call in (lambda: workshop.add("x", E), lambda: workshop.link("x", "ma", "mb", (((0, "next"), (1, "cut")),)),
                     lambda: workshop.apply(("add", "x", E))):
            with self.assertRaises(TooLarge) as caught:
                call()
            self.assertEqual(caught.exception.limit, 20)
        self.assertRaises(NameConflict, workshop.add, "ma", E)
        workshop.remove("mc")
        workshop.link("x", "ma", "mb", (((0, "next"), (1, "cut")),))
        self.assertEqual((len(workshop), str(workshop)), (20, "workshop with 20 modules, 22 edits"))


class HistoryTest(unittest.TestCase):
    def test_undo_and_redo(self):
        workshop = make_workshop()
        workshop.set_rule("c", 0, "b", 0, ())
        workshop.remove("both")
        states = [state_of(workshop)]
        for _ in range(5):
            workshop.undo()
            states.append(state_of(workshop))
        self.assertEqual([len(state[2]) for state in states], [5, 4, 3, 2, 1, 0])
        self.assertEqual({state[3] for state in states}, {15})
        for state in states[-2::-1]:
            self.assertIsNone(workshop.redo())
            self.assertEqual(state_of(workshop), state)
        workshop.undo(many=5)
        self.assertEqual(state_of(workshop), states[-1])
        workshop.redo(many=3)
        self.assertEqual(state_of(workshop), states[2])
        workshop.redo(many=2)
        self.assertEqual(state_of(workshop), states[0])

    def test_an_edit_deletes_what_could_be_redone(self):
        workshop = make_workshop()
        workshop.undo(many=2)
        self.assertRaises(NameConflict, workshop.add, "d", C)
        workshop.redo()
        self.assertEqual(workshop.names(), ("c", "d"))
        self.assertEqual(workshop.apply_all(()), 0)
        workshop.redo()
        workshop.undo(many=2)
        workshop.add("n", N)
        self.assertRaises(NothingToUndo, workshop.redo)
        self.assertEqual(workshop.names(), ("d", "n"))
        workshop.undo()
        workshop.redo()
        self.assertEqual(workshop.log(), (("add", "d", D), ("add", "n", N)))

    def test_numbers(self):
        workshop = make_workshop()
        for call in (workshop.undo, workshop.redo):
            for many in (0, -1, True, False, None, "1", (1,), [1], {}, -10 ** 39):
                with self.assertRaises(InvalidNumber) as caught:
                    call(many=many)
                self.assertIs(type(caught.exception), InvalidNumber)
                self.assertIs(caught.exception.value, many)
        for call, many in ((workshop.undo, 4), (workshop.undo, 10 ** 39), (workshop.redo, 1), (workshop.redo, 10 ** 39)):
            with self.assertRaises(NothingToUndo) as caught:
                call(many=many)
            self.assertIs(type(caught.exception), NothingToUndo)
            self.assertEqual(caught.exception.many, many)
        workshop.undo(many=3)
        self.assertRaises(NothingToUndo, workshop.undo)
        self.assertRaises(NothingToUndo, workshop.redo, many=4)
        workshop.redo(many=3)
        self.assertEqual(workshop, make_workshop())

    def test_twins(self):
        workshop = make_workshop()
        workshop.undo()
        twin = workshop.twin()
        self.assertEqual(state_of(twin), state_of(workshop))
        self.assertEqual(twin, workshop)
        twin.redo()
        twin.set_rule("c", 0, "b", 0, ())
        self.assertEqual((len(workshop), workshop.computed(), workshop.log()[-1][1]), (2, 12, "c"))
        self.assertEqual((len(twin), twin.computed()), (3, 15))
        workshop.remove("d")
        self.assertRaises(NothingToUndo, workshop.redo)
        self.assertEqual((twin.names(), workshop.names()), (("both", "c", "d"), ("c",)))
        self.assertNotEqual(twin, workshop)
        twin.undo(many=4)
        self.assertEqual(twin.log(), ())
        self.assertEqual(workshop.log(), (("add", "d", D), ("add", "c", C), ("remove", "d")))

    def test_equality(self):
        workshop = make_workshop()
        for value in (None, 0, "", (), [], {}, AB, D, state_of(workshop)):
            self.assertIs(workshop == value, False)
            self.assertIs(workshop != value, True)
        self.assertIs(Workshop(AB) == Workshop(AB), True)
        self.assertIs(Workshop(AB) == Workshop(("a",)), False)
        alone = [Workshop(AB), Workshop(AB), Workshop(AB)]
        for each, (name, module) in zip(alone, (("d", D), ("d", T), ("t", D))):
            each.add(name, module)
        self.assertEqual([alone[0] == each for each in alone], [True, False, False])
        alone[1].remove("d")
        alone[1].add("d", D)
        self.assertIs(alone[0] == alone[1], True)
        self.assertIs(workshop == make_workshop(), True)
        other = Workshop(AB)
        other.add("c", C[:4] + (C[4][:2],))
        other.set_rule("c", 0, "b", 0, ("a", "a"))
        other.add("d", D)
        self.assertIs(workshop == other, False)
        other.link("both", "d", "c", (((0, "out"), (1, "in")),))
        self.assertIs(workshop == other, True)
        self.assertNotEqual(workshop.log(), other.log())
        other.set_rule("d", 0, "a", 0, ("a",))
        self.assertIs(workshop == other, False)
        other.set_rule("d", 0, "a", 0, ())
        self.assertIs(workshop == other, True)
        # The same module as a link, as another link, and as an own module.
        other.remove("both")
        other.link("both", "d", "c", (((0, "out"), (1, "in")),), kept=())
        self.assertIs(workshop == other, True)
        module = other.module("both")
        other.remove("both")
        other.add("both", module)
        self.assertEqual(workshop.module("both"), other.module("both"))
        self.assertIs(workshop == other, False)
        other.remove("both")
        other.add("e", D)
        other.link("both", "e", "c", (((0, "out"), (1, "in")),))
        other.apply_all(())
        self.assertIs(workshop == other, False)
        wired = [Workshop(AB), Workshop(AB)]
        for each, kept in zip(wired, ((), ((1, "cut"),))):
            each.add("d", D)
            each.add("e", E)
            each.link("de", "d", "e", (((0, "out"), (1, "cut")),), kept=kept)
        self.assertIs(wired[0] == wired[1], False)


class ApplyTest(unittest.TestCase):
    def test_apply(self):
        workshop = Workshop(AB)
        edits = (("add", "d", D), ("add", "e", E), ("link", "de", "d", "e", (((0, "out"), (1, "cut")),), ((1, "cut"),)),
                 ("set", "d", 0, "a", 0, ("b",)), ("clear", "d", 0, ""), ("remove", "de"))
        for edit in edits:
            self.assertIsNone(workshop.apply(edit))
        self.assertEqual(workshop.log(), edits)
        other = Workshop(AB)
        self.assertEqual(other.apply_all(edits), 6)
        self.assertEqual(state_of(other), state_of(workshop))
        other.undo()
        self.assertEqual(other.names(), ("d", "de", "e"))

    def test_one_that_fails(self):
        """At each place among good edits, one fails: nothing is performed, and what can be redone stays."""
        good = (("add", "n", N), ("set", "n", 0, "a", 0, ()), ("link", "nc", "n", "c", (((0, "out"), (1, "in")),), ()), ("clear", "c", 0, "a"))
        bad = ((("add", "d", N), NameConflict), (("add", "x", OTHER), InvalidModule), (("remove", "d"), InvalidEdit), (("remove", "y"), UnknownModule),
               (("set", "both", 0, "a", 0, ()), InvalidEdit), (("set", "d", 0, "c", 0, ()), InvalidRule), (("clear", "d", 1, "a"), UnknownState),
               (("clear", "d", 0, ("a",)), InvalidStack), (("link", "x", "d", "d", (), ()), NameConflict), (("link", "x", "d", "y", (), ()), UnknownModule),
               (("link", "x", "d", "c", ((0, 0),), ()), InvalidWires), (("undo",), InvalidEdit), (None, InvalidEdit))
        for at in range(len(good) + 1):
            for wrong, error in bad:
                workshop = make_workshop()
                workshop.remove("both")
                workshop.undo()
                before = state_of(workshop)
                with self.assertRaises(error) as caught:
                    workshop.apply_all(good[:at] + (wrong,) + good[at:] + (None,))
                self.assertIs(type(caught.exception), error)
                self.assertEqual(state_of(workshop), before)
                workshop.redo()
                self.assertEqual(workshop.names(), ("c", "d"))
        workshop = make_workshop()
        self.assertEqual(workshop.apply_all(good), 4)
        self.assertEqual(workshop.log()[3:], good)
        workshop.undo(many=2)
        self.assertEqual(workshop.log()[3:], good[:2])

    def test_wrong_edits(self):
        workshop = make_workshop()
        before = state_of(workshop)
        for edit in NO_EDITS:
            self.assert_one(InvalidEdit, workshop.apply, edit)
            self.assert_one(InvalidEdit, workshop.apply_all, (edit,))
        for edits in (None, True, 0, "remove", [], [("remove", "both")], {}, ("remove", "both")):
            self.assert_one(InvalidEdit, workshop.apply_all, edits)
        self.assertEqual(state_of(workshop), before)

    def assert_one(self, error, call, *given):
        with self.assertRaises(error) as caught:
            call(*given)
        self.assertIs(type(caught.exception), error)


class ErrorsTest(unittest.TestCase):
    def setUp(self):
        self.workshop = make_workshop()
        self.before = state_of(self.workshop)

    def tearDown(self):
        self.assertEqual(state_of(self.workshop), self.before)

    def check(self, method, good, faults):
        """Each call is made on a twin, and changes the twin only if it raises no error."""
        before = state_of(self.workshop)

        def call(*given, **more):
            twin = self.workshop.twin()
            try:
                return getattr(twin, method)(*given, **more)
            except Exception:
                self.assertEqual(state_of(twin), before)
                raise
        check_errors(self, call, good, faults)

    def test_labels(self):
        check_errors(self, Workshop, {0: AB}, [(0, ODD + (("b", "a"), (), "ab"), InvalidLabels, None)])
        self.assertEqual(Workshop(TWELVE).labels(), TWELVE)

    def test_add(self):
        name, module = (0, NO_NAMES, InvalidEdit, None), (1, NO_MODULES, InvalidModule, None)
        self.check("add", {0: "x", 1: N}, [name, module, (0, ("d", "both"), NameConflict, "name")])

    def test_remove(self):
        self.check("remove", {0: "both"}, [(0, UNKNOWN, UnknownModule, "name"), (0, ("d", "c"), InvalidEdit, None)])

    def test_set_rule(self):
        rule = [(1, (1, -1, True, None, "0", (0,)), InvalidRule, None), (2, ("c", None, 0, ("a",), ["a"]), InvalidRule, None),
                (3, (1, -1, True, None, "next", ("out",), ["out"]), InvalidRule, None),
                (4, (("c",), ["a"], None, "a", ("a",) * 21, ("a", 0)), InvalidRule, None)]
        self.check("set_rule", {0: "d", 1: 0, 2: "a", 3: "out", 4: ("a",)},
                   [(0, UNKNOWN, UnknownModule, "name"), (0, ("both",), InvalidEdit, None)] + rule)

    def test_clear_rule(self):
        faults = [(0, UNKNOWN, UnknownModule, "name"), (0, ("both",), InvalidEdit, None),
                  (1, (1, -1, True, False, None, "0", (0,), [0], {}), UnknownState, "state"), (2, ("c", None, 0, ("a",), ["a"], {}), InvalidStack, None)]
        self.check("clear_rule", {0: "d", 1: 0, 2: "a"}, faults)
        twin = self.workshop.twin()
        twin.clear_rule("d", 0, "a")
        self.assertRaises(InvalidRule, twin.clear_rule, "d", 0, "a")

    def test_link(self):
        name, first, second = (0, NO_NAMES, InvalidEdit, None), (1, UNKNOWN, UnknownModule, "name"), (2, UNKNOWN, UnknownModule, "name")
        wires, kept = (3, WRONG_WIRES, InvalidWires, None), ("kept", WRONG_KEPT, InvalidWires, None)
        self.workshop.add("e", E)
        self.before = state_of(self.workshop)
        good = {0: "x", 1: "d", 2: "e", 3: (((0, "out"), (1, "cut")),)}
        self.check("link", good, [name, first, second, wires])
        self.check("link", {**good, "kept": ((1, "cut"),)}, [name, first, second, wires, kept])
        self.check("link", good, [(1, UNKNOWN, UnknownModule, "name"), (0, ("d", "both"), NameConflict, "name")])
        with self.assertRaises(NameConflict) as caught:
            self.workshop.link("d", "d", "c", ())
        self.assertEqual(caught.exception.name, "in")

    def test_link_limits(self):
        workshop = Workshop(("a",))
        many = tuple(("e" + letter, 0) for letter in "abcdefghijkl")
        workshop.add("big", (("a",), 60, (("in", 0),), ("out",), ()))
        workshop.add("small", (("a",), 41, (("on", 0),), ("out",), ()))
        workshop.add("full", (("a",), 1, many, tuple("x" + letter for letter in "abcdefghijkl"), ()))
        workshop.add("few", (("a",), 40, (("on", 0),), ("out",), ()))
        before = state_of(workshop)
        for parts, wires, limit in ((("big", "small"), (), 100), (("few", "full"), (), 12), (("big", "full"), (((0, "out"), (1, "ea")),), None),
                                    (("full", "few"), (((1, "out"), (0, "ea")),), None), (("big", "few"), (), None)):
            if limit:
                with self.assertRaises(TooLarge) as caught:
                    workshop.link("big", *parts, wires)
                self.assertEqual(caught.exception.limit, limit)
            else:
                self.assertRaises(NameConflict, workshop.link, "big", *parts, wires)
            self.assertEqual(state_of(workshop), before)

    def test_queries(self):
        unknown = (0, UNKNOWN, UnknownModule, "name")
        entries = (1, ("out", "", None, 0, ("in",), ["in"]), UnknownEntry, "name")
        wrong_stacks = (2, (["a"], ("c",), None, "a", (0,), {}), InvalidStack, None)
        states = (1, (1, -1, True, None, "0", (0,)), UnknownState, "state")
        tops = (2, ("c", None, 0, ("a",), ["a"]), InvalidStack, None)
        self.check("module", {0: "d"}, [unknown])
        self.check("users", {0: "d"}, [unknown])
        self.check("result", {0: "d", 1: "in", 2: ("a",)}, [unknown, entries, wrong_stacks])
        self.check("summary", {0: "d", 1: 0, 2: "a"}, [unknown, states, tops])
        for more in ({}, {"clock": True}, {"clock": False}):
            self.check("interface", {0: "d", **more}, [unknown])
            self.check("equivalent", {0: "c", 1: "c", **more}, [unknown, (1, UNKNOWN, UnknownModule, "name"), (1, ("d", "both"), InvalidModule, None)])

    def test_an_edit_in_a_part(self):
        """Edits of the rules of a part are those of with_rule and without_rule, also on the empty stack."""
        twin = self.workshop.twin()
        twin.set_rule("d", 0, "", "out", ("a",) * 20)
        self.assertEqual(twin.module("d"), with_rule(D, (0, "", "out", ("a",) * 20)))
        twin.clear_rule("d", 0, "")
        self.assertEqual(twin.module("d"), without_rule(D, 0, ""))
        self.assertEqual(twin.summary("d", 0, ""), summary(twin.module("d"), 0, ""))
        self.assertEqual(twin.result("d", "in", ("a",)), None)


class IndependenceTest(unittest.TestCase):
    def test_what_was_passed_and_returned(self):
        workshop = make_workshop()
        told = [workshop.names(), workshop.log(), workshop.module("c"), workshop.users("c"), workshop.interface("c"), workshop.summary("c", 0, "b")]
        before = copy.deepcopy(told)
        workshop.set_rule("c", 0, "b", 0, ())
        workshop.remove("both")
        self.assertEqual(told, before)
        self.assertEqual((D, C), (copy.deepcopy(D), copy.deepcopy(C)))
        self.assertEqual(workshop.module("d"), D)

    def test_all_that_is_returned_is_plain(self):
        workshop = make_workshop()
        for value in (workshop.labels(), workshop.names(), workshop.log(), workshop.module("both"), workshop.users("d"), workshop.interface("d")):
            self.assert_plain(value)

    def assert_plain(self, value):
        self.assertIn(type(value), (tuple, str, int, bool))
        if type(value) == tuple:
            for part in value:
                self.assert_plain(part)

    def test_many_small_workshops(self):
        for module in (B, C, D, E, G, H, M, N, T):
            workshop = Workshop(AB)
            workshop.add("x", module)
            for entry, _ in module[2]:
                for stack in stacks(AB, 3):
                    self.assertEqual(workshop.result("x", entry, stack), result(module, entry, stack))


if __name__ == "__main__":
    unittest.main()
