import copy
import random
import unittest

from piledoors.errors import InvalidProgram
from piledoors.interfaces.interfaces import interface
from piledoors.linking.link import link, link_self
from piledoors.modules.modules import is_module
from piledoors.procedures.compiler import program_module, system_module
from piledoors.procedures.plain import answer
from piledoors.procedures.programs import is_program, is_system
from piledoors.results.results import result
from tests.programs import EV, FULL, L, OD, RETURNS, TWELVE, Plain, bits_of, calls_in, evaluate, make_systems
from tests.samples import ODD, check_errors, stacks
from tests.test_programs import LABELS

BIT = ("f", "t")
SYSTEMS = (1, ODD + (EV, (EV,), (EV, EV), [EV, OD]), InvalidProgram, None)
PROGRAMS = (1, ODD + ((EV,), EV[:1], EV + ((),), list(EV)), InvalidProgram, None)


class Looking:
    """The results of the module of a program, from look to look, as 16.6 tells them."""

    def __init__(self, program):
        self.procedures = {procedure[0]: procedure for procedure in program[0]}
        self.calls = {call[4]: (name, call) for name, _, _, body in program[0] for call in calls_in(body)}

    def result(self, entry, stack, most=150):
        """The exit and the stack, or None; also if there are more looks than this."""
        for _ in range(most):
            if entry == "back":
                if stack[:1] not in (("f",), ("t",)):
                    return None
                if len(stack) == 1:
                    return "end", stack
                if stack[1] not in self.calls:
                    return "back", stack
                name, call = self.calls[stack[1]]
                bit, stack, many = BIT.index(stack[0]), stack[2:], self.procedures[name][2]
            else:
                name, call, many = entry, None, self.procedures[entry][1]
            if len(stack) < many or not set(stack[:many]) <= set(BIT):
                return None
            flags = [BIT.index(label) for label in stack[:many]]
            stack = stack[many:]
            if call is None:
                flags += [0] * (self.procedures[name][2] - many)
            else:
                flags[call[1]] = bit
            told = self.body(self.procedures[name][3], flags, [call[4] if call else None], [300]) or ("return", 0)
            if told == ("loop",):
                return None
            if told[0] == "return":
                entry, stack = "back", (BIT[told[1]],) + stack
                continue
            _, _, entry, arguments, label = told
            word = [evaluate(part, flags) for part in arguments], flags
            stack = tuple(BIT[bit] for bit in word[0]) + (label,) + tuple(BIT[bit] for bit in word[1]) + stack
            if entry not in self.procedures:
                return entry, stack
        return None

    def body(self, body, flags, sought, fuel):
        """What the body comes to first: a call, a return or a loop; None at its end. It begins behind a call if one is sought."""
        for statement in body:
            if sought[0] is not None and sought[0] not in [call[4] for call in calls_in((statement,))]:
                continue
            told = self.statement(statement, flags, sought, fuel)
            if told:
                return told
        return None

    def statement(self, statement, flags, sought, fuel):
        word = statement[0]
        if word == "call":
            if sought[0] is None:
                return statement
            sought[0] = None
        elif word == "return":
            return ("return", evaluate(statement[1], flags))
        elif word == "set":
            flags[statement[1]] = evaluate(statement[2], flags)
        elif word == "if":
            within = evaluate(statement[1], flags)
            if sought[0] is not None:
                within = sought[0] in [call[4] for call in calls_in(statement[2])]
            return self.body(statement[2] if within else statement[3], flags, sought, fuel)
        else:
            while sought[0] is not None or evaluate(statement[1], flags):
                fuel[0] -= 1
                if fuel[0] < 0:
                    return ("loop",)
                told = self.body(statement[2], flags, sought, fuel)
                if told:
                    return told
        return None


def greatest(many=3, inputs=3):
    """A program of the greatest size: four procedures with three inputs, four calls whose answers go to flag 2."""
    names = ("pa", "pb", "pc", "pd")
    labels = ("ra", "rb", "rc", "rd")
    bits = tuple(("flag", at) for at in range(3))
    procedures = tuple((name, inputs, many, (
        ("set", 0, ("not", ("flag", 1))), ("if", ("and", bits[0], bits[1]), (("while", bits[2], (("set", 2, ("not", bits[1])), ("set", 1, 1))),), ()),
        ("call", 2, other, bits[:inputs], label), ("return", ("or", bits[2], ("and", bits[0], bits[1])))))
        for name, other, label in zip(names, names[1:] + ("far",), labels))
    return (procedures, (("far", inputs), ("near", 0)))


def linked_by_hand(labels, system):
    """The linked module of the programs of a system, wired as 16.7 tells it; None if it has too many states."""
    modules = [program_module(labels, program) for program in system]
    if sum(module[1] for module in modules) > 100:
        return None
    if len(modules) == 1:
        return link_self(modules[0], (("back", "back"),))
    found = modules[0]
    for at, module in enumerate(modules[1:], start=1):
        sides = (found, module)
        wires = []
        for side, other in ((0, sides[1]), (1, sides[0])):
            names = [name for name, _ in other[2] if name != "back"]
            wires += [((side, door), (1 - side, door)) for door in sides[side][3] if door in names]
        wires.append(((0, "back"), (1, "back")))
        last = at == len(modules) - 1
        if last:
            wires.append(((1, "back"), (0, "back")))
        wires = tuple(sorted(wires))
        kept = {entry for _, entry in wires if entry[1] != "back"}
        found = link(found, module, wires, kept=tuple(sorted(kept)))
    return found


class ExamplesTest(unittest.TestCase):
    def test_examples(self):
        module = program_module(L, EV)
        self.assertEqual([result(module, "even", ("t", "f"))[:2], result(module, "back", ("t", "ra", "t", "f", "f", "rb"))[:2],
                          result(module, "even", ("f", "f"))[:2]],
                         [("odd", ("f", "t", "ra", "t", "f", "f")), ("back", ("t", "rb")), ("end", ("t",))])
        self.assertEqual(result(system_module(L, (EV, OD)), "even", ("t", "f"))[:2], ("end", ("t",)))


class ProgramTest(unittest.TestCase):
    def check(self, labels, program, all_stacks):
        module = program_module(labels, program)
        self.assertIs(is_module(module), True)
        self.assertEqual(module[0], labels)
        names = [name for name, _, _, _ in program[0]]
        self.assertEqual([name for name, _ in module[2]], sorted(names + ["back"]))
        self.assertEqual(module[3], tuple(sorted([name for name, _ in program[1]] + ["back", "end"])))
        looking = Looking(program)
        for name, _ in module[2]:
            for stack in all_stacks:
                told = result(module, name, stack)
                told = told[:2] if told else None
                self.assertEqual(told, looking.result(name, stack), (program, name, stack))
                yield name, told

    def test_small_stacks(self):
        """All programs of random systems, on all stacks of at most two labels."""
        kinds = {}
        for system in make_systems(181, 40):
            for program in system:
                for name, told in self.check(FULL, program, stacks(FULL, 2)):
                    kind = (name == "back", told[0] if told and told[0] in ("end", "back") else bool(told))
                    kinds[kind] = kinds.get(kind, 0) + 1
        every = {(side, kind) for side in (True, False) for kind in ("end", "back", True, False)}
        self.assertEqual(set(kinds), every - {(True, True)})

    def test_answers(self):
        """Answers in front of the label of each call, with the flags that it kept, too few of them, and others below."""
        draw = random.Random(182)
        kinds = {}
        for system in make_systems(183, 35):
            for program in system:
                labels = [call[4] for _, _, _, body in program[0] for call in calls_in(body)]
                heap = [tuple(draw.choice(BIT) for _ in range(3)) + (draw.choice(RETURNS),) for _ in range(12)]
                found = []
                for label in labels + ["x", "rd"]:
                    for _ in range(12):
                        bits = tuple(draw.choice(BIT) for _ in range(draw.randint(0, 5)))
                        found.append((draw.choice(BIT), label) + bits + draw.choice(heap) + draw.choice(heap))
                        found.append((draw.choice(BIT), label) + bits + draw.choice(heap)[draw.randrange(4):] + ("ra",) * draw.randrange(2))
                        found.append((draw.choice(BIT), label) + bits)
                for name, told in self.check(FULL, program, found):
                    kind = (name == "back", told[0] if told and told[0] in ("end", "back") else bool(told))
                    kinds[kind] = kinds.get(kind, 0) + 1
        self.assertGreater(min(kinds[(True, kind)] for kind in ("end", "back", True, False)), 50)

    def test_inputs(self):
        """A procedure takes its inputs off the stack; what is missing or no bit leads nowhere."""
        for inputs in range(4):
            program = ((("p", inputs, 3, (("return", ("or", ("flag", 0), ("and", ("flag", 1), ("not", ("flag", 2))))),)),), ())
            module = program_module(FULL, program)
            for stack in stacks(("f", "t", "x"), inputs + 1):
                told = result(module, "p", stack)
                if len(stack) < inputs or "x" in stack[:inputs]:
                    self.assertIsNone(told)
                    continue
                flags = [BIT.index(label) for label in stack[:inputs]] + [0] * (3 - inputs)
                bit = BIT[flags[0] | (flags[1] & (1 - flags[2]))]
                rest = stack[inputs:]
                self.assertEqual(told[:2], ("back", (bit,) + rest) if rest else ("end", (bit,)))

    def test_flags_in_their_order(self):
        """The call keeps all flags; the answer goes to one of them, whose old value must be a bit, too."""
        for at in range(3):
            body = (("call", at, "far", (("flag", 2), 1), "ra"), ("call", at, "far", (("flag", 0), ("flag", 1)), "rb"))
            program = ((("p", 3, 3, body),), (("far", 2),))
            module = program_module(L, program)
            for bits in bits_of(3):
                flags = tuple(BIT[bit] for bit in bits)
                self.assertEqual(result(module, "p", flags + ("rb",))[:2], ("far", (flags[2], "t", "ra") + flags + ("rb",)))
                for bit in BIT:
                    now = flags[:at] + (bit,) + flags[at + 1:]
                    self.assertEqual(result(module, "back", (bit, "ra") + flags + ("t",))[:2], ("far", now[:2] + ("rb",) + now + ("t",)))
                    for short in range(3):
                        self.assertIsNone(result(module, "back", (bit, "ra") + flags[:short]))
                        self.assertIsNone(result(module, "back", (bit, "ra") + flags[:short] + ("ra",) + flags[short + 1:]))

    def test_no_inputs_and_no_flags(self):
        program = ((("one", 0, 0, (("return", 1),)), ("two", 0, 1, (("call", 0, "one", (), "ra"), ("return", ("flag", 0))))), ())
        module = program_module(L, program)
        for stack in stacks(L, 2):
            self.assertEqual(result(module, "two", stack), result(module, "two", stack))
            told = ("end", ("t",)) if not stack else Looking(program).result("two", stack)
            self.assertEqual((result(module, "two", stack) or (None,))[:2], told or (None,))

    def test_loops(self):
        for body in ((("while", 1, ()),), (("set", 0, 1), ("while", ("flag", 0), (("set", 1, ("not", ("flag", 1))),)))):
            module = program_module(L, ((("p", 0, 2, body),), ()))
            for stack in stacks(L, 2):
                self.assertIsNone(result(module, "p", stack))
        endless = ((("p", 0, 1, (("call", 0, "p", (), "ra"),)),), ())
        self.assertIsNone(result(program_module(L, endless), "p", ()))

    def test_the_greatest(self):
        for inputs in (0, 1, 2, 3):
            program = greatest(3, inputs)
            for labels in (FULL, TWELVE):
                self.assertIs(is_program(labels, program), True)
                module = program_module(labels, program)
                self.assertIs(is_module(module), True)
                self.assertLessEqual(module[1], 100)
        draw = random.Random(184)
        found = [tuple(draw.choice(BIT) for _ in range(3)) + (draw.choice(RETURNS),) + tuple(draw.choice(BIT) for _ in range(4)) for _ in range(80)]
        found += [(draw.choice(BIT), draw.choice(RETURNS)) + tuple(draw.choice(BIT) for _ in range(3)) + stack for stack in found]
        self.assertGreater(len({told for _, told in self.check(FULL, greatest(), found)}), 20)
        whole = (tuple(part[:3] + (part[3][:2] + (part[3][2][:2] + ("pa",) + part[3][2][3:],) + part[3][3:],) for part in greatest()[0]), ())
        self.assertIs(is_system(TWELVE, (whole,)), True)
        self.assertLessEqual(system_module(TWELVE, (whole,))[1], 100)
        self.assertIs(is_module(system_module(TWELVE, (whole,))), True)

    def test_long_bodies(self):
        """Eight statements in each of three bodies: the module depends on the flags only."""
        inner = (("set", 0, ("not", ("flag", 0))), ("set", 1, ("or", ("flag", 0), ("flag", 1)))) * 4
        rows = (("if", ("flag", 0), (("if", ("flag", 1), inner, inner),) * 8, (("while", ("not", ("flag", 1)), inner),) * 8),) * 7
        program = ((("p", 2, 3, rows + (("return", ("flag", 0)),)),), ())
        for bits in bits_of(2):
            stack = tuple(BIT[bit] for bit in bits)
            told = result(program_module(L, program), "p", stack)
            bit = Plain((program,)).answer("p", bits)
            self.assertEqual(told and told[:2], None if bit is None else ("end", (BIT[bit],)))

    def test_errors(self):
        check_errors(self, program_module, {0: L, 1: EV}, [LABELS, PROGRAMS])
        check_errors(self, system_module, {0: L, 1: (EV, OD)}, [LABELS, SYSTEMS])
        before = copy.deepcopy((L, EV, OD))
        self.assertEqual(program_module(L, EV), program_module(L, EV))
        self.assertEqual(system_module(L, (EV, OD)), system_module(L, (EV, OD)))
        self.assertEqual((L, EV, OD), before)


class SystemTest(unittest.TestCase):
    def test_answers(self):
        told = []
        for system in make_systems(185, 150):
            module = system_module(FULL, system)
            self.assertIs(is_module(module), True)
            procedures = sorted(part for program in system for part in program[0])
            self.assertEqual([name for name, _ in module[2]], [part[0] for part in procedures])
            self.assertEqual(module[3], ("end",))
            for name, many, _, _ in procedures:
                for bits in bits_of(many):
                    found = result(module, name, tuple(BIT[bit] for bit in bits))
                    bit = answer(FULL, system, name, bits)
                    self.assertEqual(found and found[:2], None if bit is None else ("end", (BIT[bit],)))
                    told.append(bit)
        self.assertGreater(min(told.count(one) for one in (None, 0, 1)), 100)

    def test_linked_modules(self):
        sizes = []
        for system in make_systems(186, 100):
            found = linked_by_hand(FULL, system)
            if found is None:
                continue
            module = system_module(FULL, system)
            self.assertEqual(interface(module), interface(found), system)
            for name, _ in module[2]:
                for stack in stacks(FULL, 2):
                    told, other = result(module, name, stack), result(found, name, stack)
                    self.assertEqual(told and told[:2], other and other[:2])
            sizes.append(len(system))
        self.assertGreater(min(sizes.count(size) for size in (1, 2, 3)), 5)

    def test_labels_below(self):
        """What is below the inputs is taken for calls that wait; if it is none, the answer goes round for ever."""
        module = system_module(L, (EV, OD))
        self.assertEqual(result(module, "even", ("f", "f", "ra", "t", "f", "f"))[:2], ("end", ("t",)))
        self.assertEqual(result(module, "odd", ("f", "f", "ra", "t", "f", "f", "rb", "f", "t", "t"))[:2], ("end", ("f",)))
        for rest in (("t",), ("f", "ra"), ("ra", "t"), ("ra", "t", "f", "rb"), ("rb", "t", "f", "f", "f")):
            self.assertIsNone(result(module, "even", ("f", "f") + rest))
        foreign = system_module(FULL, (EV, OD))
        self.assertIsNone(result(foreign, "even", ("f", "f", "x")))
        self.assertIsNone(result(foreign, "even", ("f", "f", "rc", "t", "f", "f")))


if __name__ == "__main__":
    unittest.main()
