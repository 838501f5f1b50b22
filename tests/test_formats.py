import copy
import random
import unittest

from piledoors.errors import (InvalidInterface, InvalidLabels, InvalidModule, InvalidRule, InvalidStack, InvalidWires, ParseError,
                              TooLarge)
from piledoors.interfaces.interfaces import interface, is_interface
from piledoors.linking.interfaces import link_interfaces, rename_interface
from piledoors.modules.modules import is_module
from piledoors.results.results import result
from piledoors.text.formats import (MAX_DIGITS, format_interface, format_module, format_result, format_rule, format_stack,
                                    format_wires, parse_interface, parse_module, parse_result, parse_rule, parse_stack, parse_wires)
from tests.samples import (AB, D, G, M, N, ODD, T, chain, check_errors, make_keeping_modules, make_random_modules, putting_back, ring, stacks)
from tests.test_interfaces import STRANGE
from tests.test_link_interfaces import WRONG, random_interfaces
from tests.test_realize import line

TWELVE = tuple("abcdefghijkl")
WORDS = ("class", "clock", "entry", "exit", "exits", "labels", "never", "no", "states", "yes")
LABELS = (0, ODD + (("b", "a"), (), "ab"), InvalidLabels, None)
# No texts of anything: neither strings nor lines of what is written below.
NO_TEXTS = tuple(value for value in ODD if not isinstance(value, str)) + (b"-", ("-",), ["-"], D)
HUGE = 10 ** 400
# Interfaces and modules whose names are the words of the formats.
NAMED = (WORDS, 3, (("class", 0), ("clock", 1), ("entry", 2), ("never", 0)), ("class", "entry", "exit", "never", "no", "yes"), (
    (0, "", "never", ("class", "never")), (0, "class", 1, ()), (0, "entry", "exit", ("entry",)), (1, "", "class", ()), (1, "never", "yes", WORDS),
    (2, "exit", 0, ())))
SIGNS = " \n-.=>0123456789abt\t\r_+" + "\u00e9\u0663\u00b2\u2003"


def modules():
    found = [D, G, M, N, T, NAMED, (AB, 1, (), (), ()), (TWELVE, 100, (("in", 99),), (), ()), (("eightabc",), 12, (("eightabd", 11),), ("out",), ())]
    found += make_random_modules(201, 25, AB, 3, 2) + make_random_modules(202, 10, TWELVE, 2, 20)
    return found


def interfaces():
    told = [interface(module, clock=clock) for module in modules() for clock in (False, True)]
    told += [interface(module, clock=True) for module in make_keeping_modules(203, 15)]
    return told + random_interfaces(204, 25, True) + random_interfaces(205, 10, False) + [STRANGE]


def many_classes(size):
    """An interface with so many classes, with clock."""
    whole = putting_back(size, ("a",))
    both = link_interfaces(interface(whole, clock=True), rename_interface(interface(whole, clock=True), entries=(("in", "on"),)),
                           (((0, "out"), (1, "on")),), kept=((1, "on"),))
    return both


def variants(draw, text, many):
    """The text with a sign out, put in, exchanged or cut off, with a line or a part out, twice or moved, and more such."""
    found = [text + "\n", "\n" + text, text + " ", " " + text, text.replace(" ", "  ", 1), text.replace("\n", "\n\n", 1), text.replace("\n", " ", 1),
             text.replace(" ", "\n", 1), text.upper(), text[::-1], "", text + text, text.replace("-", ""), text.replace("-", "- -"), text.replace(" ", "\t", 1),
             text.replace("\n", "\r\n"), text + "\x00", text.replace("0", "00", 1), text.replace("0", "-0", 1), text.replace("1", "+1", 1), text.replace("1", "01", 1),
             text.replace("1", "\u0661"), text.replace("a", "\u0430", 1), text.replace("2", "\u00b2"), text.replace("0", "0_0")]
    for _ in range(many):
        at = draw.randrange(len(text) + 1)
        sign = draw.choice(SIGNS)
        found += [text[:at] + text[at + 1:], text[:at] + sign + text[at:], text[:at] + sign + text[at + 1:], text[:at], text[at:]]
    for sign in "\n ":
        parts = text.split(sign)
        for _ in range(min(many, 2 * len(parts))):
            one, two = draw.randrange(len(parts)), draw.randrange(len(parts))
            found.append(sign.join(parts[:one] + parts[one + 1:]))
            found.append(sign.join(parts[:one] + parts[one:one + 1] * 2 + parts[one + 1:]))
            other = list(parts)
            other[one], other[two] = other[two], other[one]
            found.append(sign.join(other))
            found.append(sign.join(parts[:one] + [draw.choice(WORDS + ("-", "0", "7", "100", "00", "-1", "out", "a", "->", "", "x=0"))] + parts[one + 1:]))
    return found


class Case(unittest.TestCase):
    def both_ways(self, draw, values, write, read, many=12):
        """Each text is parsed again. A changed text has a value exactly if this value has the text."""
        good = bad = 0
        texts = {}
        for value in values:
            text = write(value)
            self.assertEqual(read(text), value)
            self.assertIs(type(text), str)
            self.assertEqual(texts.setdefault(text, value), value)
            for other in variants(draw, text, many):
                try:
                    told = read(other)
                except ParseError as error:
                    self.assertIs(type(error), ParseError)
                    self.assertNotIn(other, texts)
                    bad += 1
                else:
                    self.assertEqual(write(told), other)
                    good += 1
        self.assertGreater(bad, good)
        return good

    def check_no_texts(self, read):
        for value in NO_TEXTS:
            with self.assertRaises(ParseError) as caught:
                read(value)
            self.assertIs(type(caught.exception), ParseError)

    def refuse(self, read, *texts):
        for text in texts:
            with self.assertRaises(ParseError, msg=repr(text)) as caught:
                read(text)
            self.assertIs(type(caught.exception), ParseError)


class ExamplesTest(unittest.TestCase):
    def test_examples(self):
        self.assertEqual([format_stack(("a", "b"), ("b", "a")), format_stack(("a",), ()), parse_stack(("a", "b"), "a a")], ["b a", "-", ("a", "a")])
        self.assertRaises(ParseError, parse_stack, ("a", "b"), "a  b")
        self.assertEqual([format_rule((0, "", "out", ())), parse_rule("2 b -> 10 a b"), format_wires((((0, "out"), (1, "in")),)), parse_wires("-")],
                         ["0 - -> out -", (2, "b", 10, ("a", "b")), "0.out=1.in", ()])
        self.assertRaises(ParseError, parse_rule, "02 b -> 1 -")
        self.assertEqual([format_result(("out", ("b", "a"), 3)), parse_result("low 2 -"), parse_result("never")], ["out 3 b a", ("low", (), 2), None])
        self.assertEqual(format_module(G), "labels a b\nstates 1\nentries in=0\nexits out\n0 - -> out -\n0 a -> 0 a b a")
        self.assertEqual(format_interface(interface(D)),
                         "labels a b\nexits low out\nclock no\nentry in class 0 0\nclass 0\n- exit low 0 -\na class 0 0\nb exit out 0 b")
        self.assertEqual(MAX_DIGITS, 400)


class StackTest(Case):
    def test_both_ways(self):
        draw = random.Random(206)
        for labels in (AB, ("a",), ("ab", "b"), WORDS):
            values = stacks(labels, 2) + [tuple(draw.choice(labels) for _ in range(9))]
            self.assertGreater(self.both_ways(draw, values, lambda stack: format_stack(labels, stack), lambda text: parse_stack(labels, text)), 50)
        long = tuple(draw.choice(TWELVE) for _ in range(60000))
        self.assertEqual(parse_stack(TWELVE, format_stack(TWELVE, long)), long)

    def test_errors(self):
        wrong_stacks = (1, ODD + (("c",), "a", ["a"], ("a", None), (0,)), InvalidStack, None)
        check_errors(self, format_stack, {0: AB, 1: ("a",)}, [LABELS, wrong_stacks])
        texts = (1, NO_TEXTS + ("", "c", "a c", "- a", "a -", "--", "a b ", " a", "a\nb", "a\n", "A", "a,b", "ab"), ParseError, None)
        check_errors(self, parse_stack, {0: AB, 1: "a"}, [LABELS, texts])


class RuleTest(Case):
    def test_both_ways(self):
        draw = random.Random(207)
        rules = [rule for module in modules() for rule in module[4][:6]]
        rules += [(99, "eightabc", 99, ("a",) * 20), (0, "", 0, ()), (10, "zz", "zz", ("zz",))]
        self.assertGreater(self.both_ways(draw, rules, format_rule, parse_rule), 500)
        self.check_no_texts(parse_rule)

    def test_bounds(self):
        good = (0, "a", 1, ("a",))
        for value in (good, (99,) + good[1:], good[:2] + (99,) + good[3:], good[:3] + (("a",) * 20,), good[:3] + (("z", "y"),), (5, "", "x", ())):
            self.assertEqual(parse_rule(format_rule(value)), value)
        wrong = [(100,) + good[1:], (-1,) + good[1:], (False,) + good[1:], (None,) + good[1:], ("0",) + good[1:], good[:1] + ("A",) + good[2:],
                 good[:1] + (None,) + good[2:], good[:1] + ("ninechars",) + good[2:], good[:1] + (("a",),) + good[2:], good[:2] + (100,) + good[3:],
                 good[:2] + (True,) + good[3:], good[:2] + ("",) + good[3:], good[:2] + (None,) + good[3:], good[:2] + ("A",) + good[3:], good[:3] + (["a"],),
                 good[:3] + (("a",) * 21,), good[:3] + (("",),), good[:3] + ("a",), good[:3] + ((0,),), good[:3] + (None,), good[:3], good + ((),), list(good)]
        check_errors(self, format_rule, {0: good}, [(0, tuple(wrong) + ODD[:-9] + (None,), InvalidRule, None)])
        self.refuse(parse_rule, "100 a -> 1 a", "-1 a -> 1 a", "0 a -> 100 a", "0 a -> -1 a", "0 a -> 1 " + " ".join("a" * 21), "0 a -> 1", "0 a 1 a", "0 a => 1 a",
                    "0 a -> 1 ", "0  -> 1 -", "0 A -> 1 -", "0 ninechars -> 1 -", "0 a -> ninechars -", "0 a -> - -", "0 - -> x - -", "0 a -> 1a -", "0 a -> 01 -",
                    "00 a -> 1 -", "-0 a -> 1 -", "+0 a -> 1 -", "\u0663 a -> 1 -", "0 a -> \u00b2 -", "0 a -> 1 -\n", "0\na -> 1 -", "0 a  -> 1 -", "1_0 a -> 1 -")


class WiresTest(Case):
    def test_both_ways(self):
        draw = random.Random(208)
        wires = [(), (((0, "a"), (0, "a")),), (((0, "a"), (1, "b")), ((0, "b"), (1, "b")), ((1, "a"), (0, "eightabc")))]
        doors = [(side, name) for side in (0, 1) for name in sorted(TWELVE)]
        wires.append(tuple((door, draw.choice(doors)) for door in doors))
        self.assertGreater(self.both_ways(draw, wires, format_wires, parse_wires, 40), 20)
        self.check_no_texts(parse_wires)

    def test_bounds(self):
        good = (((0, "a"), (1, "b")), ((1, "a"), (0, "b")))
        doors = [(side, name) for side in (0, 1) for name in sorted(TWELVE) + ["m"]]
        many = tuple((door, (0, "a")) for door in doors)
        self.assertEqual(parse_wires(format_wires(many[:24])), many[:24])
        wrong = (many[:25], good[::-1], good[:1] * 2, (((0, "a"), (0, "b")), ((0, "a"), (1, "b"))), (((2, "a"), (0, "b")),), (((-1, "a"), (0, "b")),),
                 (((False, "a"), (0, "b")),), (((0, "a"), (True, "b")),), (((0, "A"), (0, "b")),), (((0, "a"), (0, "")),), (((0, "a"), (0, None)),),
                 (((0, "a"),),), (((0, "a"), (0, "b"), (0, "c")),), (((0,), (0, "b")),), (((0, "a"), "0b"),), (["0a"],), (None,), [good[0]], {}, None, 0, "-")
        check_errors(self, format_wires, {0: good}, [(0, wrong, InvalidWires, None)])
        text = format_wires(many[:24])
        self.refuse(parse_wires, "", " ", "- -", text + " 1.m=0.a", "1.a=0.b 0.a=1.b", "0.a=1.b 0.a=1.b", "0.a=0.b 0.a=1.b", "2.a=0.b", "-1.a=0.b", "00.a=0.b", "0.a=0.b ",
                    "0.a=0.b  1.a=0.b", "0.a", "0.a=", "=0.a", "0.a=0.b=0.c", "0.a.b=0.b", "0a=0.b", ".a=0.b", "0.=0.b", "0.A=0.b", "0.a=0.ninechars", "0.a-0.b",
                    "0.a=0.b\n", "0.a=0.b\n1.a=0.b", "a.0=b.0", "0 .a=0.b", "\u0660.a=0.b", "0.a=0.\u0430")


class ResultTest(Case):
    def test_both_ways(self):
        draw = random.Random(209)
        values = [None, ("never", (), 0), ("never", ("never",), 1), ("x", ("ab", "c"), 10 ** 399), ("eightabc", (), 10 ** 400 - 1)]
        values += [result(module, module[2][0][0], stack) for module in (D, G, M) for stack in stacks(AB, 2)]
        self.assertGreater(self.both_ways(draw, values, format_result, parse_result), 200)
        self.check_no_texts(parse_result)

    def test_bounds(self):
        good = ("out", ("a",), 3)
        wrong = ODD[1:] + (("", ("a",), 3), ("A", ("a",), 3), (None, ("a",), 3), (0, ("a",), 3), ("out", ["a"], 3), ("out", "a", 3), ("out", ("",), 3), ("out", (0,), 3),
                           ("out", None, 3), ("out", ("a",), -1), ("out", ("a",), True), ("out", ("a",), "3"), ("out", ("a",), None), good[:2], good + (0,), list(good))
        large = (0, (("out", ("a",), HUGE), ("out", (), HUGE ** 3)), TooLarge, None)
        check_errors(self, format_result, {0: good}, [(0, wrong + (("out", ("A",), HUGE), ("out", (), -HUGE)), InvalidStack, None), large])
        with self.assertRaises(TooLarge) as caught:
            format_result(("out", (), HUGE))
        self.assertEqual(caught.exception.limit, 400)
        self.assertEqual(len(format_result(("out", (), HUGE - 1))), 406)
        self.refuse(parse_result, "", "never ", "Never", "out", "out 3", "3 out -", "out -3 -", "out -0 -", "out 03 -", "out +3 -", "out 3 - -", "out 3 ", "out  3 -",
                    "out 3 a -", "out 3 A", "OUT 3 -", "never 3", "out 3 a\n", "\nout 3 a", "out \u0663 -", "out 3_0 -", "out 0x1 -", "out 1.0 -", "out " + "1" * 401 + " -",
                    "out 1" + "0" * 5000 + " -", "out three -")
        self.assertEqual(parse_result("out " + "1" * 400 + " -"), ("out", (), (HUGE - 1) // 9))


class ModuleTest(Case):
    def test_both_ways(self):
        draw = random.Random(210)
        self.assertGreater(self.both_ways(draw, modules(), format_module, parse_module), 300)
        self.check_no_texts(parse_module)

    def test_words_of_the_formats(self):
        self.assertIs(is_module(NAMED), True)
        self.assertEqual(format_module(NAMED).split("\n")[:6], [
            "labels class clock entry exit exits labels never no states yes", "states 3", "entries class=0 clock=1 entry=2 never=0",
            "exits class entry exit never no yes", "0 - -> never class never", "0 class -> 1 -"])

    def test_wrong_texts(self):
        good = format_module(D)
        lines = good.split("\n")
        self.assertEqual(lines, ["labels a b", "states 1", "entries in=0", "exits low out", "0 - -> low -", "0 a -> 0 -", "0 b -> out b"])
        wrong = {0: ("labels", "labels -", "labels b a", "labels a a", "label a b", "labels a  b", "labels a b ", "labels A", "a b", "labels a b\nlabels a b"),
                 1: ("states 0", "states 101", "states -1", "states 01", "states", "states 1 1", "states +1", "states one", "state 1", "states 1 ", "states \u0661"),
                 2: ("entries", "entries in=1", "entries in=00", "entries in", "entries in=0=0", "entries in:0", "entries =0", "entries in=", "entries on=0 in=0",
                     "entries in=0 in=0", "entries IN=0", "entries - in=0", "entries in=-0", "entries in =0", "entry in=0", "entries  in=0", "entries back.in=0"),
                 3: ("exits", "exits out low", "exits low low out", "exits low", "exits - low out", "exits LOW out", "exit low out", "exits -", "exits low out "),
                 4: ("0 - -> next -", "1 - -> low -", "0 c -> low -", "0 - -> 1 -", "0 - -> low c", "0 - -> low - -", "0 b -> low -", "0 a -> low -", "", "- - -> low -")}
        for at, texts in wrong.items():
            for text in texts:
                self.refuse(parse_module, "\n".join(lines[:at] + [text] + lines[at + 1:]))
        for at in range(4):
            self.refuse(parse_module, "\n".join(lines[:at] + lines[at + 1:]), "\n".join(lines[:at]))
        self.refuse(parse_module, good + "\n", good + "\n\n", "\n" + good, good.replace("\n", "\r\n"), good.replace("\n", " "), "\n".join(lines[:4] + lines[:3:-1]),
                    good + "\n0 b -> out b")
        self.assertEqual(parse_module("\n".join(lines[:4])), D[:4] + ((),))

    def test_large(self):
        module = (TWELVE, 100, (), ("out",), tuple((state, top, (state + 1) % 100, (TWELVE * 2)[:20]) for state in range(100) for top in ("",) + TWELVE))
        text = format_module(module)
        self.assertEqual(parse_module(text), module)
        long = tuple("longer" + letter for letter in "abcdefghijkl")
        module = (long, 100, (), ("out",), tuple((state, top, "out", (long * 2)[:20]) for state in range(100) for top in ("",) + long))
        text = format_module(module)
        self.assertGreater(len(text), 200000)
        self.assertEqual(parse_module(text), module)
        self.refuse(parse_module, text + "\n", text[:-1] + "A", text + " a")
        self.assertEqual(parse_module(format_module(chain(1300, ("out", ()))[0])), chain(1300, ("out", ()))[0])

    def test_errors(self):
        check_errors(self, format_module, {0: D}, [(0, ODD, InvalidModule, None)])


class InterfaceTest(Case):
    def test_both_ways(self):
        draw = random.Random(211)
        self.assertGreater(self.both_ways(draw, interfaces(), format_interface, parse_interface), 400)
        self.check_no_texts(parse_interface)

    def test_texts(self):
        self.assertEqual(format_interface(STRANGE).split("\n"), [
            "labels a b", "exits low out", "clock yes", "entry a exit out -3 b", "entry b class 0 -1" + "0" * 30, "entry c never", "class 0", "- exit low 0 -",
            "a class 1 -7", "b exit out -8 -", "class 1", "- never", "a exit out 0 a", "b class 0 5"])
        self.assertEqual(format_interface((AB, (), False, (), ())), "labels a b\nexits -\nclock no")
        self.assertEqual(parse_interface("labels a b\nexits -\nclock yes"), (AB, (), True, (), ()))

    def test_wrong_texts(self):
        good = format_interface(STRANGE)
        lines = good.split("\n")
        wrong = {0: ("labels", "labels -", "labels b a", "label a b", "labels a", "labels a b c"), 1: ("exits", "exits -", "exits out low", "exits low", "exit low out"),
                 2: ("clock", "clock no", "clock maybe", "clock yes no", "clock True", "clock yes "),
                 3: ("entry", "entry a", "entry a exit", "entry a exit out -3", "entry a exit out -3 ", "entry a exit b -3 out", "entry a exit out b -3", "entry b exit out -3 b",
                     "entry A never", "entry a exit out -03 b", "entry a exit out - 3 b", "entry a exit out +3 b", "entry a exit out -3 c", "entry a exit next -3 b", "a never",
                     "entry a pop 0 1", "entry a class 2 0", "entry a class 0", "entry a class 0 0 0", "entry a never never", "entry a Never", "entry  a never", "entry a class -1 0"),
                 6: ("class", "class 1", "class 00", "class 0 ", "class -0", "Class 0", "class zero"), 7: ("- class 0 0", "a exit low 0 -", "- exit low 1 -", "exit low 0 -", "- exit low 0"),
                 8: ("a class 0 -7", "a class 1 -07", "b class 1 -7", "a class 1", "a never", "- class 1 -7"), 10: ("class 2", "class 0", "class 01", ""),
                 13: ("b class 0", "b class 2 5", "b never", "")}
        for at, texts in wrong.items():
            for text in texts:
                other = "\n".join(lines[:at] + [text] + lines[at + 1:])
                try:
                    told = parse_interface(other)
                except ParseError:
                    continue
                self.assertEqual((is_interface(told), format_interface(told)), (True, other))
                self.assertIn(text, ("b never", "a never"))
        for at in range(len(lines)):
            self.refuse(parse_interface, "\n".join(lines[:at] + lines[at:at + 1] * 2 + lines[at + 1:]))
            if lines[at] not in ("entry a exit out -3 b", "entry c never"):
                self.refuse(parse_interface, "\n".join(lines[:at] + lines[at + 1:]))
        self.refuse(parse_interface, good + "\n", "\n" + good, good.replace("\n", "\r\n"), good + "\nclass 2", good + "\nclass 2\n- never\na never\nb never")

    def test_many_classes(self):
        for size in (8, 11, 90):
            told = many_classes(size)
            text = format_interface(told)
            self.assertIn(f"\nclass {len(told[4]) - 1}\n", text)
            self.assertEqual(parse_interface(text), told)
        self.assertGreater(len(told[4]), 100)
        self.refuse(parse_interface, text.replace("\nclass 100\n", "\nclass 0100\n"), text.replace("\nclass 100\n", "\nclass 10\n"), text.replace("\nclass 100\n", "\n"))
        whole = interface(ring(100, lambda state: state == 99, TWELVE), clock=True)
        self.assertEqual(parse_interface(format_interface(whole)), whole)

    def test_digits(self):
        """Ticks of 400 digits have a text, ticks of 401 digits have none; the same below 0."""
        for ticks in (HUGE - 1, 1 - HUGE, HUGE, -HUGE, HUGE ** 12):
            entry = (AB, ("out",), True, (("in", ("exit", "out", (), ticks)),), ())
            row = (AB, ("out",), True, (("in", ("class", 0, 1)),), ((("exit", "out", (), 0), ("class", 0, ticks), ("exit", "out", (), 0)),))
            start = row[:3] + ((("in", ("class", 0, ticks)),),) + ((row[4][0][:1] + (("never",),) * 2,),)
            for told in (entry, row, start):
                self.assertIs(is_interface(told), True)
                if abs(ticks) < HUGE:
                    self.assertEqual(parse_interface(format_interface(told)), told)
                    text = format_interface(told)
                    self.refuse(parse_interface, text.replace(str(ticks), str(ticks) + "0"), text.replace(str(ticks), str(ticks)[:1] + "0" + str(ticks)[1:]))
                else:
                    with self.assertRaises(TooLarge) as caught:
                        format_interface(told)
                    self.assertIs(type(caught.exception), TooLarge)
                    self.assertEqual(caught.exception.limit, 400)

    def test_errors(self):
        check_errors(self, format_interface, {0: interface(D)}, [(0, WRONG, InvalidInterface, None)])
        with self.assertRaises(InvalidInterface):
            format_interface((AB, ("out",), False, (("in", ("exit", "out", (), HUGE)),), ()))

    def test_thousands_of_classes(self):
        """A line of classes is told apart one by one, from its end; a doubled one is no interface."""
        told = line(8000)
        text = format_interface(told)
        self.assertGreater(len(text), 250000)
        self.assertEqual(parse_interface(text), told)
        rows = told[4][:4000] + ((("never",), ("class", 3999, 0)),) + told[4][4001:]
        self.refuse(parse_interface, text.replace("a class 4001 0", "a class 4000 0"))
        self.assertIs(is_interface(told[:4] + (rows,)), False)

    def test_large(self):
        """An interface with a word of a hundred thousand labels."""
        told = (AB, ("out",), True, (("in", ("exit", "out", ("a", "b") * 50000, 5)),), ())
        text = format_interface(told)
        self.assertEqual(parse_interface(text), told)
        self.refuse(parse_interface, text + " c", text + " ")

    def test_nothing_is_changed(self):
        values = (D, interface(D), (((0, "out"), (1, "in")),), ("out", ("a",), 3))
        before = copy.deepcopy(values)
        for call, value in zip((format_module, format_interface, format_wires, format_result), values):
            self.assertEqual(call(value), call(value))
        self.assertEqual(values, before)


if __name__ == "__main__":
    unittest.main()
