import copy
import random
import unittest

from piledoors.compare.equivalence import separating_stack
from piledoors.compare.replacement import replacement_gap
from piledoors.errors import (InvalidCommand, InvalidEdit, InvalidLabels, InvalidModule, InvalidNumber, InvalidRule, InvalidStack,
                              InvalidWires, NameConflict, NothingToUndo, ParseError, TooLarge, UnknownEntry, UnknownModule, UnknownState)
from piledoors.interfaces.interfaces import interface
from piledoors.interfaces.realize import least_form
from piledoors.results.results import result
from piledoors.summaries.summaries import summaries
from piledoors.text.formats import format_interface, format_module, format_result, format_rule, format_stack, format_wires
from piledoors.text.shell import Shell
from piledoors.workshop.workshop import Workshop
from tests.samples import AB, C, D, E, G, H, M, N, ODD, T, make_keeping_modules, putting_back, ring
from tests.test_slowdown import replacing
from tests.test_workshop import Model, make_fresh, random_edit, state_of

TWELVE = tuple("abcdefghijkl")
NO_COMMANDS = tuple(value for value in ODD if not isinstance(value, str)) + (b"names", ("names",), ["names"])


def add(name, module):
    return f"add {name}\n{format_module(module)}"


def make_shell():
    shell = Shell(AB)
    shell.run_all((add("d", D), add("c", C), "link both d c 0.out=1.in"))
    return shell


def state_of_shell(shell):
    return (shell.history(), len(shell), str(shell), state_of(shell.workshop()))


def command_of(edit):
    """The command that performs an edit."""
    if edit[0] == "add":
        return add(edit[1], edit[2])
    if edit[0] == "link":
        return f"link {edit[1]} {edit[2]} {edit[3]} {format_wires(edit[4])}"
    if edit[0] == "set":
        return f"set {edit[1]} {format_rule(edit[2:])}"
    return " ".join([edit[0], edit[1]] + [str(part) or "-" for part in edit[2:]])


def told_summary(told):
    if told[0] == "pop":
        return f"pop {told[1]} {told[2]}"
    return "never" if told[0] == "never" else f"exit {told[1]} {told[3]} {format_stack(AB, told[2])}"


def told_difference(found):
    return "yes" if found is None else f"no {found[0]} {format_stack(AB, found[1])}"


class ExamplesTest(unittest.TestCase):
    def test_examples(self):
        s = Shell(("a", "b"))
        self.assertEqual(s.run("add d\nlabels a b\nstates 1\nentries in=0\nexits low out\n0 - -> low -\n0 a -> 0 -\n0 b -> out b"), "ok")
        self.assertEqual([s.run("result d in a a b a"), s.run("result d in -"), s.run("summary d 0 a")], ["out 3 b a", "low 1 -", "pop 0 1"])
        self.assertEqual([s.run("least e d"), s.run("set e 0 b -> 0 -"), s.run("equivalent d e"), s.run("undo 1"), s.run("equivalent d e clock")],
                         ["ok", "ok", "no in b", "ok", "yes"])
        self.assertRaises(ParseError, s.run, "result d in c")
        t = Shell(("a",))
        self.assertEqual([t.run_all(("names", "names")), t.history(), len(t)], [("-", "-"), (("names", "-"), ("names", "-")), 2])
        with self.assertRaises(UnknownModule) as caught:
            t.run_all(("names", "module m", "names"))
        self.assertEqual(caught.exception.name, "m")
        self.assertEqual(t.history(), (("names", "-"),) * 3)


class CommandsTest(unittest.TestCase):
    def test_many_commands(self):
        """Random edits as commands, and all questions, against the functions of the earlier stages."""
        draw = random.Random(221)
        kinds = {}
        for seed in range(12):
            shell, model, fresh = Shell(AB), Model(), make_fresh(seed)
            for _ in range(30):
                if model.standing and draw.random() < 0.15:
                    self.assertEqual(shell.run("undo 1"), "ok")
                    model.standing -= 1
                elif model.standing < len(model.edits) and draw.random() < 0.5:
                    self.assertEqual(shell.run("redo 1"), "ok")
                    model.standing += 1
                else:
                    edit = random_edit(draw, model, fresh)
                    if edit is None or edit[0] == "link" and not self.is_plain(shell, edit):
                        continue
                    edit = edit if edit[0] != "link" else edit[:5] + ((),)
                    self.assertEqual(shell.run(command_of(edit)), "ok")
                    model.perform(edit)
                    kinds[edit[0]] = kinds.get(edit[0], 0) + 1
                self.assertEqual(shell.workshop().log(), tuple(model.edits[:model.standing]))
                self.assertEqual(shell.workshop().computed(), model.computed)
                self.check_answers(draw, shell, model.modules())
        self.assertEqual(set(kinds), {"add", "link", "remove", "set", "clear"})

    def is_plain(self, shell, edit):
        """Whether a link can be made with no entries kept."""
        try:
            shell.workshop().link(*edit[1:5])
        except (NameConflict, TooLarge):
            return False
        return True

    def check_answers(self, draw, shell, modules):
        many = len(shell)
        asked = {"names": " ".join(modules) or "-"}
        for name, module in modules.items():
            asked[f"module {name}"] = format_module(module)
            asked[f"interface {name}"] = format_interface(interface(module))
            asked[f"interface {name} clock"] = format_interface(interface(module, clock=True))
            for (state, top), told in summaries(module).items():
                asked[f"summary {name} {state} {top or '-'}"] = told_summary(told)
            for entry, _ in module[2]:
                stack = tuple(draw.choice(AB) for _ in range(draw.randrange(4)))
                asked[f"result {name} {entry} {format_stack(AB, stack)}"] = format_result(result(module, entry, stack))
            for other, second in modules.items():
                if module[3] == second[3] and [one for one, _ in module[2]] == [one for one, _ in second[2]]:
                    asked[f"equivalent {name} {other}"] = told_difference(separating_stack(module, second))
                    asked[f"equivalent {name} {other} clock"] = told_difference(separating_stack(module, second, clock=True))
                    asked[f"replaces {name} {other}"] = told_difference(replacement_gap(module, second))
        for command, told in asked.items():
            self.assertEqual(shell.run(command), told, command)
        self.assertEqual(shell.history()[many:], tuple(asked.items()))

    def test_each_command(self):
        shell = Shell(AB)
        commands = ((add("m", M), "ok"), (add("n", N), "ok"), ("equivalent m n", "yes"), ("equivalent m n clock", "no in a"), ("replaces m n", "yes"),
                    ("least k m", "ok"), ("module k", format_module(N)), (add("g", G), "ok"), ("replaces n g", "no in a"), ("replaces g n", "yes"),
                    ("summary g 0 a", "never"), ("summary m 1 b", "exit out 1 a b"), ("summary m 0 -", "exit out 1 -"), ("summary m 0 a", "pop 1 1"), ("result g in a", "never"), ("result m in b a", "out 2 b a"),
                    (add("e", E), "ok"), (add("h", H), "ok"), ("link me m e 0.out=1.cut 1.next=0.in", "ok"), ("undo 1", "ok"), ("names", "e g h k m n"), ("undo 1", "ok"), ("names", "e g k m n"), ("redo 1", "ok"),
                    ("remove h", "ok"), ("undo 2", "ok"), ("redo 2", "ok"), ("set e 0 a -> next b b", "ok"), ("result e cut a", "next 1 b b"), ("clear e 0 a", "ok"), ("result e cut a", "never"),
                    ("set m 0 - -> 0 a", "ok"), ("interface m", None), ("interface m clock", None), ("link ne n e 0.out=1.cut", "ok"), ("names", "e g k m n ne"), ("module ne", None))
        answered = []
        for command, told in commands:
            if told is None:
                name = command.split(" ")[1]
                module = shell.workshop().module(name)
                told = format_module(module) if command.startswith("module") else format_interface(interface(module, clock=command.endswith("clock")))
            self.assertEqual(shell.run(command), told, command)
            answered.append((command, told))
        self.assertEqual(shell.history(), tuple(answered))
        self.assertEqual(len(shell), len(answered))

    def test_least(self):
        for module in make_keeping_modules(222, 20) + [putting_back(12, AB)]:
            shell = Shell(AB)
            shell.run(add("m", module))
            self.assertEqual(shell.run("least x m"), "ok")
            self.assertEqual(shell.workshop().log()[1], ("add", "x", least_form(module)))
            self.assertEqual(shell.run("equivalent m x"), "yes")
            self.assertEqual(shell.workshop().computed(), 3 * (module[1] + least_form(module)[1]))

    def test_words_as_names(self):
        """Names that are words of commands."""
        shell = Shell(("clock", "names"))
        module = (("clock", "names"), 1, (("clock", 0), ("undo", 0)), ("never", "ok"), ((0, "clock", "ok", ("names",)), (0, "names", "never", ())))
        for name in ("clock", "add", "names"):
            self.assertEqual(shell.run(add(name, module)), "ok")
        for command, told in (("interface clock", format_interface(interface(module))), ("interface clock clock", format_interface(interface(module, clock=True))),
                              ("equivalent add clock", "yes"), ("equivalent clock clock clock", "yes"), ("result names undo clock clock", "ok 1 names clock"),
                              ("result names clock names clock", "never 1 clock"), ("result names clock -", "never"), ("remove names", "ok"), ("names", "add clock"),
                              ("set add 0 - -> 0 clock", "ok"), ("clear add 0 -", "ok"), ("summary clock 0 names", "exit never 1 -")):
            self.assertEqual(shell.run(command), told, command)

    def test_large(self):
        shell = Shell(TWELVE)
        whole = ring(100, lambda state: state == 99, TWELVE)
        self.assertEqual(shell.run_all((add("a", whole), "least b a", "equivalent a b clock", "module b", "interface a clock")),
                         ("ok", "ok", "yes", format_module(whole), format_interface(interface(whole, clock=True))))
        stack = " ".join(random.Random(223).choice(TWELVE) for _ in range(50000))
        self.assertEqual(shell.run(f"result a in {stack}"), "low 50001 -")


class InvalidTest(unittest.TestCase):
    def check(self, error, commands, attribute=None, shell=None):
        shell = shell or make_shell()
        before = state_of_shell(shell)
        for command in commands:
            value = None
            if attribute:
                command, value = command
            with self.assertRaises(error, msg=repr(command)) as caught:
                shell.run(command)
            self.assertIs(type(caught.exception), error, command)
            if attribute:
                self.assertEqual(getattr(caught.exception, attribute), value)
            self.assertEqual(state_of_shell(shell), before)

    def test_no_commands(self):
        text = format_module(D)
        self.check(InvalidCommand, NO_COMMANDS + (
            "", " ", "\n", "name", "Names", "names ", " names", "names names", "names\n", "NAMES", "-", "help", "exit", "add", "add x", "add x y z", "add\n" + text, "add\nx\n" + text,
            "add  x\n" + text, "add x \n" + text, "add x y\n" + text, " add x\n" + text, "adds x\n" + text, "remove", "remove both both", "remove  both", "remove both ", "set d", "set d 0 a -> 0",
            "set d 0 a 0", "set d 0 a ->", "set", "clear d 0", "clear d 0 a a", "clear d", "link x d c", "link x d", "link", "undo", "undo 1 1", "undo  1", "redo", "redo 1 ", "least", "least x", "least x d c",
            "module", "module d c", "module  d", "result d in", "result d", "result", "summary d 0", "summary d 0 a a", "summary d", "interface", "interface d Clock", "interface d c", "interface d clock clock",
            "interface d ticks", "interface  d", "interface d ", "equivalent d", "equivalent d c yes", "equivalent d c clock clock", "equivalent  d c", "equivalent d c ", "replaces d", "replaces d c clock",
            "replaces d c d", "replaces", "Module d", "module\nd", "module\td", "labels", "log", "computed", "twin", "users d", "apply", "rename d", "names clock"))

    def test_parts_that_are_written_wrongly(self):
        text = format_module(D)
        for wrong in ("", "A", "ninechars", "a1", "-", "d\n", "\nd", "d-", "\u0430"):
            self.check(ParseError, (f"module {wrong}", f"remove {wrong}", f"interface {wrong}", f"interface {wrong} clock", f"equivalent {wrong} d", f"equivalent d {wrong}", f"equivalent d {wrong} clock",
                                    f"replaces {wrong} d", f"replaces d {wrong}", f"least {wrong} d", f"least x {wrong}", f"result {wrong} in a", f"result d {wrong} a", f"summary {wrong} 0 a",
                                    f"clear {wrong} 0 a", f"set {wrong} 0 a -> 0 -", f"link {wrong} d c -", f"link x {wrong} c -", f"link x d {wrong} -"))
        for wrong in ("", "-", "00", "01", "-0", "+1", "1.0", "one", "1_0", "0x1", "\u0661", "\u00b2", "1\n", "1" * 401, "-" + "1" * 401, "1" * 5000, "--1"):
            self.check(ParseError, (f"undo {wrong}", f"redo {wrong}", f"summary d {wrong} a", f"clear d {wrong} a"))
        for wrong in ("", "c", "A", "--", "ab", "a\n"):
            self.check(ParseError, (f"summary d 0 {wrong}", f"clear d 0 {wrong}", f"result d in {wrong}", f"result d in a {wrong}"))
        self.check(ParseError, ("result d in - -", "result d in a -", "result d in  a", "result d in a b ", "result d in c", "result d in a  b"))
        self.check(ParseError, ("set d 0 a => 0 -", "set d 0 a 0 -> -", "set d 00 a -> 0 -", "set d 100 a -> 0 -", "set d -1 a -> 0 -", "set d 0 A -> 0 -", "set d 0 a -> 100 -", "set d 0 a -> OUT -", "set d 0 a -> 0 A",
                                "set d 0 a -> 0 ", "set d 0 a -> 0 - -", "set d 0 a -> 0 " + " ".join("a" * 21), "set d 0 a  -> 0 -", "set d 0  a -> 0 -", "set d  0 a -> 0", "set d 0 a -> 0 -\n", "set d 0 a\n-> -> 0 -"))
        self.check(ParseError, ("link x d c 0.out", "link x d c 0.out=1.in 0.low=1.in", "link x d c 2.out=1.in", "link x d c - -", "link x d c  0.out=1.in", "link x d c 0.out=1.in ", "link x d c 0.out=1.in\n",
                                "link x d c 0.out:1.in"))
        self.check(ParseError, ("add x\n", "add x\n\n" + text, "add x\n" + text + "\n", "add A\n" + text, "add \n" + text, "add x\n" + text.replace("0", "00"), "add x\nnames", "add x\n" + text.replace("\n", " ")))
        for command in ("add x y", "add x " + text.replace("\n", " ").split(" ")[0]):
            self.assertRaises((InvalidCommand, ParseError), make_shell().run, command)

    def test_errors_of_the_methods(self):
        self.check(UnknownModule, [(command, "x") for command in ("module x", "remove x", "interface x", "interface x clock", "equivalent x d", "equivalent d x", "equivalent x x clock", "replaces x d", "replaces d x",
                                                                  "result x in a", "result x no -", "summary x 0 a", "summary x 7 -", "set x 0 a -> 0 -", "clear x 0 a", "least d x", "least y x", "link y x d -",
                                                                  "link d x d 0.zz=1.zz")] + [("equivalent y x", "y"), ("replaces y x", "y"), ("link d d x -", "x"), ("link y x z -", "x")], "name")
        self.check(UnknownEntry, [("result d out a", "out"), ("result both on -", "on")], "name")
        self.check(UnknownState, [("summary d 1 a", 1), ("summary d -1 -", -1), ("summary both 2 a", 2), ("clear d 1 a", 1), ("clear d " + "9" * 400 + " a", 10 ** 400 - 1)], "state")
        self.check(InvalidRule, ("set d 1 a -> 0 -", "set d 0 c -> 0 -", "set d 0 a -> 1 -", "set d 0 a -> next -", "set d 0 a -> 0 c", "set d 99 zz -> 99 zz"))
        self.check(InvalidEdit, ("set both 0 a -> 0 -", "set both 99 zz -> 0 -", "clear both 0 a", "clear both 99 a", "remove d", "remove c"))
        self.check(InvalidWires, ("link x d c 0.next=1.in", "link x d c 0.out=1.cut", "link d d c 1.low=0.in"))
        self.check(NameConflict, [("link d d c 0.out=1.in", "d"), ("link x d c -", "in"), ("link x d d -", "in"), (add("d", D), "d"), ("least d c", "d"), ("least both d", "both")], "name")
        self.check(InvalidModule, (add("x", (("a",), 1, (), (), ())), "equivalent d c", "equivalent c d clock", "replaces d c", "replaces c d", add("d", (("a", "b", "c"), 1, (), (), ()))))
        self.check(InvalidNumber, [("undo 0", 0), ("undo -1", -1), ("redo 0", 0), ("redo -" + "9" * 400, 1 - 10 ** 400)], "value")
        self.check(NothingToUndo, [("undo 4", 4), ("redo 1", 1), ("undo " + "9" * 400, 10 ** 400 - 1)], "many")
        shell = make_shell()
        shell.run("clear d 0 a")
        self.check(InvalidRule, ("clear d 0 a",), shell=shell)

    def test_the_order_of_the_errors(self):
        """First the form of the command, then how its parts are written, then what they name."""
        self.check(InvalidCommand, ("module X Y", "equivalent A B C", "result A", "summary x A", "set X 0 a", "undo x y", "interface X Y"))
        self.check(ParseError, ("equivalent x A", "equivalent A x clock", "result x out c", "result x A a", "summary x 9 c", "summary x A a", "set x 0 a -> 0 C", "link D x y 0.zz=1.zz", "link d x y zz", "least D x",
                                "clear x 1 c", "add d\nlabels", "replaces x A"))
        self.check(UnknownModule, [("result x out a", "x"), ("link d x y 0.zz=1.zz", "x"), ("clear x 7 a", "x")], "name")

    def test_too_large(self):
        """Numbers of more than 400 digits in an answer; each number with fewer digits is told."""
        module = self.tower(40)
        shell = Shell(TWELVE)
        self.assertEqual(shell.run(add("m", module)), "ok")
        told = summaries(module)
        sizes = []
        for head in [(state, label) for state in range(40) for label in "ak"]:
            command = f"summary m {head[0]} {head[1]}"
            sizes.append(len(str(told[head][2])))
            if sizes[-1] > 400:
                self.check(TooLarge, [(command, 400)], "limit", shell)
            else:
                self.assertEqual(shell.run(command), f"pop {head[0]} {told[head][2]}")
        self.assertGreater(len([size for size in sizes if size > 400]), 5)
        self.assertGreater(len([size for size in sizes if 350 < size <= 400]), 5)
        self.assertEqual(shell.run("result m in -"), "out 1 -")
        self.check(TooLarge, [("result m in a", 400), ("result m in b a", 400), ("interface m clock", 400)], "limit", shell)
        self.assertEqual(shell.run("interface m"), format_interface(interface(module)))
        self.assertEqual(shell.run("equivalent m m clock"), "yes")
        self.assertEqual(shell.run("set m 0 k -> 0 -"), "ok")
        self.assertEqual(shell.run("summary m 0 k"), "pop 0 1")
        self.check(UnknownModule, [("summary x 0 a", "x")], "name", shell)

    def tower(self, size):
        """In each state a label is replaced by twenty of the next one, ten times, and then by labels for the next state."""
        rules = []
        for state in range(size):
            rules.append((state, "", "out", ()))
            rules += [(state, one, state, (two,) * 20) for one, two in zip(TWELVE[:10], TWELVE[1:11])]
            rules.append((state, "k", state + 1, ("a",) * 19 + ("l",)) if state < size - 1 else (state, "k", state, ()))
            rules.append((state, "l", max(0, state - 1), ()))
        return (TWELVE, size, (("in", 0),), ("out",), tuple(rules))

    def test_a_multiplied_label(self):
        shell = Shell(TWELVE)
        shell.run(add("m", replacing()))
        ticks = sum(20 ** power for power in range(12))
        self.assertEqual(shell.run("summary m 0 a"), f"pop 0 {ticks}")
        self.assertEqual(shell.run("result m in a"), f"out {ticks + 1} -")


class ShellTest(unittest.TestCase):
    def test_labels(self):
        for labels in ODD + (("b", "a"), (), "ab"):
            self.assertRaises(InvalidLabels, Shell, labels)
        self.assertEqual(Shell(TWELVE).workshop(), Workshop(TWELVE))

    def test_texts(self):
        shell = Shell(AB)
        self.assertEqual((str(shell), len(shell), shell.history()), ("shell with 0 modules, 0 answers", 0, ()))
        shell.run(add("d", D))
        self.assertEqual(str(shell), "shell with 1 modules, 1 answers")
        shell.run_all(("names", "undo 1"))
        self.assertEqual((str(shell), len(shell)), ("shell with 0 modules, 3 answers", 3))

    def test_run_all(self):
        good = (add("n", N), "names", "set n 0 a -> 0 -", "result n in a")
        for at in range(len(good) + 1):
            for wrong, error in (("nothing", InvalidCommand), (None, InvalidCommand), (("names",), InvalidCommand), ("module A", ParseError),
                                 ("module x", UnknownModule), ("undo 9", NothingToUndo), (add("d", D), NameConflict)):
                shell, other = make_shell(), make_shell()
                with self.assertRaises(error) as caught:
                    shell.run_all(good[:at] + (wrong,) + good[at:])
                self.assertIs(type(caught.exception), error)
                answers = tuple(other.run(command) for command in good[:at])
                self.assertEqual(state_of_shell(shell), state_of_shell(other))
                self.assertEqual(shell.history()[3:], tuple(zip(good, answers)))
                self.assertEqual(shell, other)
        shell = make_shell()
        self.assertEqual(shell.run_all(good), ("ok", "both c d n", "ok", "out 2 -"))
        self.assertEqual(shell.run_all(()), ())
        before = state_of_shell(shell)
        for commands in (None, 0, True, "names", ["names"], {}, {"names": 1}, b"names"):
            with self.assertRaises(InvalidCommand) as caught:
                shell.run_all(commands)
            self.assertIs(type(caught.exception), InvalidCommand)
        self.assertEqual(state_of_shell(shell), before)

    def test_copies_of_the_workshop(self):
        shell = make_shell()
        copied = shell.workshop()
        self.assertEqual(copied, shell.workshop())
        copied.remove("both")
        copied.set_rule("d", 0, "a", "out", ())
        self.assertEqual(shell.run("names"), "both c d")
        self.assertEqual(shell.run("module d"), format_module(D))
        shell.run("undo 3")
        self.assertEqual((len(copied), len(shell.workshop())), (2, 0))
        copied.undo(many=2)
        self.assertEqual(copied.names(), ("both", "c", "d"))
        shell.run("redo 3")
        self.assertEqual(shell.workshop(), copied)

    def test_equality(self):
        shell = make_shell()
        for value in (None, 0, "", (), [], {}, shell.history(), shell.workshop(), Shell(AB)):
            self.assertIs(shell == value, False)
            self.assertIs(shell != value, True)
        other = make_shell()
        self.assertIs(shell == other, True)
        other.run("names")
        self.assertIs(shell == other, False)
        shell.run("names")
        self.assertIs(shell == other, True)
        shell.run("undo 1")
        other.run("remove both")
        self.assertEqual(shell.workshop(), other.workshop())
        self.assertIs(shell == other, False)
        self.assertIs(Shell(AB) == Shell(("a",)), False)
        self.assertIs(Shell(AB) == Shell(AB), True)

    def test_the_history_is_not_changed(self):
        shell = make_shell()
        history = shell.history()
        before = copy.deepcopy(history)
        shell.run("undo 3")
        self.assertEqual(history, before)
        self.assertEqual(shell.history(), before + (("undo 3", "ok"),))
        commands = ("names", "redo 3")
        shell.run_all(commands)
        self.assertEqual(commands, ("names", "redo 3"))

    def test_stacks_over_other_labels(self):
        """A stack over other labels than those of the shell is written wrongly."""
        shell = make_shell()
        for command in ("result d in c", "summary d 0 c", "clear d 0 c", "result d in a c"):
            with self.assertRaises(ParseError) as caught:
                shell.run(command)
            self.assertNotIsInstance(caught.exception, InvalidStack)


class SlowerTest(unittest.TestCase):
    def test_ticks(self):
        shell = Shell(AB)
        shell.run_all((add("d", D), add("t", T)))
        self.assertEqual(shell.run_all(("equivalent d t", "equivalent d t clock", "equivalent t d clock", "replaces d t", "replaces t d")),
                         ("yes", "no in a", "no in a", "yes", "yes"))


if __name__ == "__main__":
    unittest.main()
