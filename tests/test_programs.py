import copy
import random
import unittest

from piledoors.errors import InvalidLabels
from piledoors.procedures.programs import is_program, is_system
from tests.programs import EV, FULL, L, OD, RETURNS, TWELVE, calls_in, make_systems
from tests.samples import ODD, check_errors

LABELS = (0, ODD + (("f",), ("t",), ("a", "b"), ("f", "ra"), ("ra", "t"), ("t", "f"), ("f", "f", "t"), ["f", "t"], ("f", "t", "A"),
                    ("f", "ra", "t", "t")), InvalidLabels, None)


def proc(body, flags=3, inputs=2, name="p"):
    return (name, inputs, flags, body)


def program(*body):
    """A program of one procedure, two inputs and three flags, that can call itself and two imports."""
    return ((proc(body),), (("q", 0), ("r", 3)))


def is_name(value):
    return type(value) == str and 1 <= len(value) <= 8 and all("a" <= letter <= "z" for letter in value)


def is_int(value, low, high):
    return type(value) == int and low <= value <= high


class Judge:
    """The rules of 16.2 to 16.4, in the order of their sentences."""

    def __init__(self, labels):
        self.returns = [label for label in labels if label not in ("f", "t")]

    def expression(self, value, flags, depth=1):
        if depth > 4:
            return False
        if is_int(value, 0, 1):
            return True
        if type(value) != tuple or len(value) < 2:
            return False
        if value[0] == "flag":
            return len(value) == 2 and is_int(value[1], 0, flags - 1)
        many = {"not": 2, "and": 3, "or": 3}.get(value[0]) if type(value[0]) == str else None
        return len(value) == many and all(self.expression(part, flags, depth + 1) for part in value[1:])

    def body(self, value, flags, inputs, depth=1):
        if depth > 3 or type(value) != tuple or len(value) > 8:
            return False
        return all(self.statement(part, flags, inputs, depth) for part in value)

    def statement(self, value, flags, inputs, depth):
        if type(value) != tuple or not value or type(value[0]) != str:
            return False
        word, rest = value[0], value[1:]
        if word == "set" and len(rest) == 2:
            return is_int(rest[0], 0, flags - 1) and self.expression(rest[1], flags)
        if word == "call" and len(rest) == 4:
            at, name, arguments, label = rest
            return (is_int(at, 0, flags - 1) and type(name) == str and name in inputs and type(arguments) == tuple
                    and len(arguments) == inputs[name] and all(self.expression(part, flags) for part in arguments)
                    and type(label) == str and label in self.returns)
        if word == "if" and len(rest) == 3:
            return self.expression(rest[0], flags) and all(self.body(part, flags, inputs, depth + 1) for part in rest[1:])
        if word == "while" and len(rest) == 2:
            return self.expression(rest[0], flags) and self.body(rest[1], flags, inputs, depth + 1)
        return word == "return" and len(rest) == 1 and self.expression(rest[0], flags)

    def program(self, value):
        if type(value) != tuple or len(value) != 2 or type(value[0]) != tuple or type(value[1]) != tuple:
            return False
        procedures, imports = value
        if not (1 <= len(procedures) <= 4 and len(imports) <= 4):
            return False
        for part in procedures:
            if not (type(part) == tuple and len(part) == 4 and is_name(part[0]) and is_int(part[2], 0, 3) and is_int(part[1], 0, part[2])):
                return False
        for part in imports:
            if not (type(part) == tuple and len(part) == 2 and is_name(part[0]) and is_int(part[1], 0, 3)):
                return False
        names, others = [part[0] for part in procedures], [part[0] for part in imports]
        if names != sorted(set(names)) or others != sorted(set(others)) or set(names) & set(others):
            return False
        if {"back", "end"} & set(names + others):
            return False
        inputs = {part[0]: part[1] for part in procedures + imports}
        if not all(self.body(part[3], part[2], inputs) for part in procedures):
            return False
        labels = [call[4] for part in procedures for call in calls_in(part[3])]
        return len(labels) <= 4 and len(labels) == len(set(labels))

    def system(self, value):
        if type(value) != tuple or not 1 <= len(value) <= 3 or not all(self.program(part) for part in value):
            return False
        procedures = [part for one in value for part in one[0]]
        labels = [call[4] for part in procedures for call in calls_in(part[3])]
        if len(procedures) > 4 or len(labels) > 4 or len(set(labels)) < len(labels):
            return False
        if len({part[0] for part in procedures}) < len(procedures):
            return False
        for at, one in enumerate(value):
            others = {part[0]: part[1] for side, other in enumerate(value) if side != at for part in other[0]}
            if not all(others.get(name) == many for name, many in one[1]):
                return False
        return True


def places(value):
    """All places in nested tuples, as tuples of indexes."""
    found = [()]
    if isinstance(value, tuple):
        for at, part in enumerate(value):
            found += [(at,) + place for place in places(part)]
    return found


def with_part(value, place, change):
    if not place:
        return change(value)
    at = place[0]
    return value[:at] + (with_part(value[at], place[1:], change),) + value[at + 1:]


def part_at(value, place):
    for at in place:
        value = value[at]
    return value


NEW = (0, 1, 2, 3, 4, -1, True, False, None, "p", "q", "back", "end", "f", "t", "ra", "rz", "ninechars", "eightcha", "", (), ("flag", 0), ("flag", 3),
       ("flag", True), ("not", 1), ("not", 0, 1), ("and", 0), ("xor", 0, 1), (("return", 0),), ("return", 0), ("set", 0, 1), ("while", 0, ()),
       ("if", 1, (), ()), (("if", 1, (), ()),), ("skip",), [0], ["flag", 0], {}, "flag", "alpha", ("alpha", 0), (("zeta", 1),), 10 ** 39)


def changes(draw, value, others=()):
    """The value with one part changed, left out, doubled, moved or put elsewhere."""
    all_places = places(value)
    place = draw.choice(all_places)
    part = part_at(value, place)
    options = [lambda old: draw.choice(NEW + others), lambda old: part_at(value, draw.choice(all_places))]
    if isinstance(part, tuple) and part:
        at = draw.randrange(len(part))
        options += [lambda old: old[:at] + old[at + 1:], lambda old: old[:at] + old[at:at + 1] * 2 + old[at + 1:],
                    lambda old: old[:at] + (draw.choice(NEW),) + old[at:], lambda old: old[::-1], lambda old: list(old)]
    if type(part) == int:
        options += [lambda old: old + draw.choice([-1, 1]), lambda old: bool(old)]
    if type(part) == str:
        options += [lambda old: old + "x" * draw.randint(1, 7), lambda old: old.upper(), lambda old: draw.choice(["ra", "rb", "f", "alpha"])]
    return with_part(value, place, draw.choice(options))


class ExamplesTest(unittest.TestCase):
    def test_examples(self):
        self.assertEqual([is_program(L, EV), is_system(L, (EV,)), is_system(L, (EV, OD)), is_program(("f", "t"), EV)],
                         [True, False, True, False])


class ProgramTest(unittest.TestCase):
    def check(self, good, *values):
        for value in values:
            self.assertIs(is_program(FULL, value), good, value)
            self.assertIs(Judge(FULL).program(value), good, value)

    def statements(self, good, *statements):
        self.check(good, *[program(statement) for statement in statements])

    def test_changed_at_every_place(self):
        """Each part of some programs and systems in turn is put in the place of others; and many random changes."""
        draw = random.Random(161)
        judge = Judge(FULL)
        counts = {(call, told): 0 for call in (is_program, is_system) for told in (True, False)}
        systems = [system for system in make_systems(162, 60)]
        for system in systems:
            self.assertIs(is_system(FULL, system), True, system)
            for value in system:
                self.assertIs(is_program(FULL, value), True)
                for place in places(value):
                    other = with_part(value, place, lambda old: draw.choice(NEW))
                    self.assertIs(is_program(FULL, other), judge.program(other), other)
            for _ in range(60):
                for call, told, value in ((is_system, judge.system, system), (is_program, judge.program, draw.choice(system))):
                    for _ in range(draw.randint(1, 2)):
                        value = changes(draw, value, system)
                    good = told(value)
                    self.assertIs(call(FULL, value), good, value)
                    counts[(call, good)] += 1
        self.assertGreater(min(counts.values()), 150)

    def test_indexes(self):
        for at in (0, 1, 2):
            self.statements(True, ("set", at, 1), ("return", ("flag", at)), ("call", at, "q", (), "ra"))
        for at in (-1, 3, True, False, None, "0", (0,), 10 ** 39):
            self.statements(False, ("set", at, 1), ("return", ("flag", at)), ("call", at, "q", (), "ra"))
        for flags in (0, 1, 2, 3):
            self.check(True, ((proc((), flags, flags),), ()), ((proc((), flags, 0),), ()))
            self.check(False, ((proc((), flags, flags + 1),), ()), ((proc((), flags, -1),), ()), ((proc((("set", flags, 0),), flags, 0),), ()))
        self.check(False, ((proc((), 4, 2),), ()), ((proc((), -1, 0),), ()), ((proc((), True, 0),), ()), ((proc((), 1, False),), ()),
                   ((proc((), 3, True),), ()), ((proc((), None, 0),), ()), ((proc((), "3", 0),), ()))

    def test_bits(self):
        self.statements(True, ("return", 0), ("return", 1))
        self.statements(False, ("return", 2), ("return", -1), ("return", True), ("return", False), ("return", None), ("return", "f"),
                        ("return", ()), ("return", [0]), ("return", ("bit", 0)), ("return",), ("return", 0, 0))

    def test_expressions(self):
        for word, many in (("not", 1), ("and", 2), ("or", 2)):
            value = ("flag", 0)
            for depth in (2, 3, 4, 5, 6):
                value = (word,) + (value,) * many
                self.statements(depth <= 4, ("return", value), ("set", 0, value), ("if", value, (), ()), ("while", value, ()),
                                ("call", 0, "r", (value, 0, 0), "ra"), ("call", 0, "r", (0, 0, value), "ra"))
            value = 1
            for depth in (2, 3, 4, 5):
                value = (word,) + (0,) * (many - 1) + (value,)
                self.statements(depth <= 4, ("return", value))
            for wrong in ((word,), (word,) + (0,) * (many + 1), (word,) + (0,) * (many - 1), (word,) + (True,) * many, [word] + [0] * many,
                          (word.upper(),) + (0,) * many, ((word,),) + (0,) * many):
                self.statements(False, ("return", wrong))

    def test_statements(self):
        self.statements(True, ("call", 0, "p", (0, ("flag", 2)), "x"), ("if", 1, (("while", 0, (("return", 0),)),), ()))
        self.statements(False, (), None, 0, "return", ["return", 0], ("pass",), ("set",), ("set", 0), ("set", 0, 1, 1), ("if", 1, ()), ("while", 1),
                        ("if", 1, (), (), ()), ("while", 1, (), ()), ("while", 1, None), ("while", 1, [("return", 0)]), ("while", 1, ("return", 0)),
                        ("if", 1, (), None), ("if", 1, ("return", 0), ()), ("call", 0, "q", (), "ra", 0), ("call", 0, "q", ()), (["set"], 0, 1), ({}, 0))

    def test_bodies(self):
        for many in (0, 7, 8, 9):
            rows = (("set", 0, 1),) * many
            self.check(many <= 8, program(*rows))
            self.statements(many <= 8, ("if", 1, rows, ()), ("if", 1, (), rows), ("while", 0, rows))
        for kind in (lambda body: ("while", 0, body), lambda body: ("if", 0, body, ()), lambda body: ("if", 0, (), body)):
            statement = ("return", 0)
            for depth in (2, 3, 4, 5):
                statement = kind((statement,))
                self.statements(depth <= 3, statement)
            self.statements(True, kind((kind(()),)))
            self.statements(False, kind((kind((kind(()),)),)))
        self.check(False, ((proc([]),), ()), ((proc(None),), ()), ((proc({}),), ()), ((proc(("return", 0)),), ()), ((proc("return"),), ()))

    def test_calls(self):
        def call(name, many, label="ra"):
            return ("call", 0, name, (0,) * many, label)
        self.statements(True, call("p", 2), call("q", 0), call("r", 3))
        self.statements(False, call("p", 1), call("p", 3), call("q", 1), call("r", 2), call("s", 0), call("back", 1), call("end", 0),
                        call(None, 0), call(["q"], 0), call(0, 0), call(("q",), 0), ("call", 0, "q", [], "ra"), ("call", 0, "q", None, "ra"),
                        ("call", 0, "r", (0, 0, True), "ra"))
        for label in RETURNS + ("x",):
            self.statements(True, call("q", 0, label))
        for label in ("f", "t", "rz", "", None, 0, ["ra"], ("ra",), {}):
            self.statements(False, call("q", 0, label))
        for many in (3, 4, 5):
            rows = tuple(call("q", 0, label) for label in (RETURNS + ("x",))[:many])
            self.check(many <= 4, program(*rows), program(("if", 1, rows[:2], (("while", 0, rows[2:]),))),
                       ((proc(rows[:2]), proc(rows[2:], name="s")), (("q", 0),)))
        self.check(False, program(call("q", 0), call("q", 0)), program(call("q", 0), ("if", 1, (call("p", 2),), ())),
                   program(("if", 1, (call("q", 0),), (call("q", 0),))), ((proc((call("s", 2),)), proc((call("s", 2),), name="s")), ()))

    def test_names(self):
        many = tuple(proc((), name=name) for name in "abcde")
        for count in (0, 1, 4, 5):
            self.check(1 <= count <= 4, (many[:count], ()))
        imports = tuple((name, 3) for name in "abcde")
        for count in (0, 1, 4, 5):
            self.check(count <= 4, ((proc(()),), imports[:count]))
        self.check(True, ((proc((), name="eightabc"),), (("eightabd", 0),)))
        for name in ("nineabcde", "", "A", "a b", "a1", "\u00e9", "back", "end", None, 0, ("p",), ["p"]):
            self.check(False, ((proc((), name=name),), ()), ((proc(()),), ((name, 0),)))
        self.check(False, (many[:2][::-1], ()), (many[:1] * 2, ()), ((proc(()),), imports[:2][::-1]), ((proc(()),), imports[:1] * 2),
                   ((proc(()),), (("a", 0), ("a", 1))), ((proc(()),), (("p", 2),)), ((proc(()),), (("q", 4),)), ((proc(()),), (("q", -1),)),
                   ((proc(()),), (("q", True),)), ((proc(()),), (("q",),)), ((proc(()),), (("q", 0, 0),)), ((proc(()),), (["q", 0],)),
                   ((proc(()),), [("q", 0)]), ((proc(()),), {"q": 0}), ([proc(())], ()), ({}, ()), (None, ()), ((proc(()),), None), ((proc(()),),),
                   ((proc(()),), (), ()), [(proc(()),), ()], ((proc(())[:3],), ()), ((proc(()) + (0,),), ()), ((list(proc(())),), ()))

    def test_odd_values(self):
        for value in ODD:
            self.assertIs(is_program(L, value), False)
            self.assertIs(is_system(L, value), False)

    def test_labels(self):
        self.assertEqual([is_program(labels, EV) for labels in (L, FULL, TWELVE, ("f", "ra", "t"), ("f", "rb", "t"), ("f", "t"))],
                         [True, True, True, True, False, False])
        self.assertIs(is_program(("f", "t"), ((proc(()),), ())), True)

    def test_errors(self):
        for call, good in ((is_program, EV), (is_system, (EV, OD))):
            for value in (good, None, {}):
                check_errors(self, call, {0: L, 1: value}, [LABELS])
        before = copy.deepcopy((L, EV, OD))
        self.assertEqual([is_system(L, (EV, OD)), is_system(L, (EV, OD))], [True, True])
        self.assertEqual((L, EV, OD), before)


class SystemTest(unittest.TestCase):
    def check(self, good, *values):
        for value in values:
            self.assertIs(is_system(FULL, value), good, value)
            self.assertIs(Judge(FULL).system(value), good, value)

    def one(self, name, imports=(), body=(), inputs=1):
        return ((proc(body, 3, inputs, name),), imports)

    def test_programs(self):
        parts = [self.one(name) for name in "abcd"]
        self.check(True, *[tuple(parts[:many]) for many in (1, 2, 3)])
        self.check(False, (), tuple(parts), list(parts[:2]), (parts[0], None), parts[0], (parts[0], list(parts[1])), (parts[0], parts[0]))
        self.check(True, (parts[1], parts[0]), (parts[2], parts[0], parts[1]))

    def test_procedures(self):
        def some(names):
            return (tuple(proc((), name=name) for name in names), ())
        self.check(True, (some("ab"), some("cd")), (some("abcd"),), (some("ad"), some("bc")), (some("ab"), some("c"), some("d")))
        self.check(False, (some("abc"), some("de")), (some("ab"), some("cd"), some("e")), (some("ab"), some("bc")), (some("abcd"), some("e")))

    def test_calls(self):
        def calling(name, labels):
            return self.one(name, (), tuple(("call", 0, name, (0,), label) for label in labels))
        self.check(True, (calling("a", RETURNS[:2]), calling("b", RETURNS[2:])), (calling("a", RETURNS), self.one("b")))
        self.check(False, (calling("a", RETURNS[:2]), calling("b", RETURNS[1:])), (calling("a", RETURNS), calling("b", ("x",))),
                   (calling("a", RETURNS[:1]), calling("b", RETURNS[:1])), (calling("a", RETURNS[:2]), calling("b", ("rc", "rd", "x"))))

    def test_imports(self):
        a, b = self.one("a", (("b", 2),)), self.one("b", inputs=2)
        self.check(True, (a, b), (b, a), (a, self.one("b", (("a", 1),), inputs=2)), (a, b, self.one("c", (("a", 1), ("b", 2)))))
        self.check(False, (a,), (a, self.one("b", inputs=1)), (a, self.one("b", inputs=3)), (a, self.one("c")), (b, self.one("a", (("c", 0),))),
                   (a, self.one("b", (("a", 2),), inputs=2)), (a, self.one("c", (("a", 1), ("b", 2)))))

    def test_a_name_that_is_imported_and_defined(self):
        self.check(False, (self.one("a", (("a", 1),)),), (self.one("a", (("b", 1),)), ((proc((), 3, 1, "b"),), (("b", 1),))))


if __name__ == "__main__":
    unittest.main()
