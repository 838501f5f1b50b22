import copy
import itertools
import random
import unittest

from piledoors.errors import InvalidLabels, InvalidNumber, InvalidProgram, InvalidStack, UnknownEntry
from piledoors.procedures.plain import answer, calls_made
from tests.programs import EV, FULL, L, OD, TWELVE, Plain, bits_of, make_systems
from tests.samples import ODD, check_errors
from tests.test_programs import LABELS

SYSTEMS = (1, ODD + (EV, (EV,), (EV, EV), (EV, OD, EV), [EV, OD]), InvalidProgram, None)
PROCEDURES = (2, ("back", "end", "f", "ra", "", "Even", None, 0, True, ("even",), ["even"], {}, EV), UnknownEntry, "name")
INPUTS = (3, ((), (0,), (0, 1, 0), (0, 2), (0, -1), (True, 0), (0, False), ("f", "t"), (None, 0), ((0,), 1), [0, 1], "ft", "", None, 0, {},
              {0: 1, 1: 0}, 10 ** 39), InvalidStack, None)
LIMITS = ("limit", (-1, 10001, 10 ** 39, -10 ** 39, True, False, None, "5", (5,), [5], {}), InvalidNumber, "value")
FLAG = ("flag", 0)


def system_of(*procedures):
    """A system of one program with these procedures."""
    return ((tuple(sorted(procedures)), ()),)


def all_runs(system):
    return [(name, bits) for program in system for name, many, _, _ in program[0] for bits in bits_of(many)]


def events_of(system, name, inputs, many):
    """The first events of the run, and whether it ends; found by a plain evaluation that ends at the event behind them."""
    plain = Plain(system, fuel=20000, depth=many + 1)
    ended = plain.answer(name, inputs) is not None
    return tuple(plain.events[:many]), ended


class ExamplesTest(unittest.TestCase):
    def test_examples(self):
        self.assertEqual([answer(L, (EV, OD), "even", (1, 0)), answer(L, (EV, OD), "odd", (1, 0))], [1, 0])
        self.assertEqual(calls_made(L, (EV, OD), "even", (0, 1)),
                         (("call", "even", (0, 1)), ("call", "odd", (0, 0)), ("return", "odd", 0), ("return", "even", 0)))


class AnswerTest(unittest.TestCase):
    def test_plain_evaluation(self):
        told = []
        for system in make_systems(171, 500):
            for name, inputs in all_runs(system):
                found = answer(FULL, system, name, inputs)
                self.assertEqual(found, Plain(system).answer(name, inputs), (system, name, inputs))
                self.assertIs(type(found), type(None) if found is None else int)
                for order in itertools.permutations(system):
                    self.assertEqual(answer(FULL, order, name, inputs), found)
                told.append(found)
        self.assertGreater(min(told.count(one) for one in (None, 0, 1)), 200)

    def test_even_and_odd(self):
        for bits in bits_of(2):
            number = 2 * bits[0] + bits[1]
            self.assertEqual(answer(L, (EV, OD), "even", bits), 1 - number % 2)
            self.assertEqual(answer(L, (OD, EV), "odd", bits), number % 2)

    def test_bodies(self):
        for body, told in (((), (0, 0)), ((("return", 1),), (1, 1)), ((("return", FLAG),), (0, 1)), ((("set", 0, 1),), (0, 0)),
                           ((("set", 0, ("not", FLAG)), ("return", FLAG)), (1, 0)), ((("if", FLAG, (("return", 1),), ()),), (0, 1)),
                           ((("if", FLAG, (), (("return", 1),)), ("return", 0)), (1, 0)), ((("return", ("flag", 1)),), (0, 0)),
                           ((("while", FLAG, ()),), (0, None)), ((("while", FLAG, (("set", 0, 0),)), ("return", 1)), (1, 1)),
                           ((("while", 1, (("return", FLAG),)),), (0, 1)), ((("while", 1, (("if", FLAG, (("return", 1),), (("set", 0, 1),)),)),), (1, 1)),
                           ((("while", 0, (("return", 1),)), ("return", FLAG)), (0, 1)), ((("return", 1), ("while", 1, ())), (1, 1)),
                           ((("while", ("not", ("flag", 1)), (("set", 1, ("or", FLAG, ("flag", 1))),)), ("return", ("flag", 1))), (None, 1))):
            system = system_of(("p", 1, 2, body))
            self.assertEqual(tuple(answer(("f", "t"), system, "p", (bit,)) for bit in (0, 1)), told, body)

    def test_expressions(self):
        three = tuple(("flag", at) for at in range(3))
        for expression, told in ((("and", three[0], ("and", three[1], three[2])), lambda a, b, c: a and b and c),
                                 (("or", three[0], ("or", three[1], three[2])), lambda a, b, c: a or b or c),
                                 (("not", ("or", three[2], ("not", three[0]))), lambda a, b, c: int(not (c or not a))),
                                 (("or", ("and", three[0], ("not", three[1])), ("and", ("not", three[0]), three[1])), lambda a, b, c: a ^ b)):
            for bits in bits_of(3):
                self.assertEqual(answer(L, system_of(("p", 3, 3, (("return", expression),))), "p", bits), told(*bits))

    def test_flags_are_kept_over_calls(self):
        """The called procedure sets all its flags; of the caller only one changes."""
        other = ("q", 1, 3, (("set", 0, ("not", FLAG)), ("set", 1, 1), ("set", 2, 1), ("return", FLAG)))
        for at in range(3):
            for bits in bits_of(3):
                for asked in range(3):
                    body = (("call", at, "q", (FLAG,), "ra"), ("return", ("flag", asked)))
                    told = answer(L, system_of(("p", 3, 3, body), other), "p", bits)
                    self.assertEqual(told, 1 - bits[0] if asked == at else bits[asked])

    def test_recursion(self):
        down = ("p", 1, 1, (("if", FLAG, (("call", 0, "p", (0,), "ra"), ("return", ("not", FLAG))), ()),))
        self.assertEqual([answer(L, system_of(down), "p", (bit,)) for bit in (0, 1)], [0, 1])
        deep = ("p", 0, 1, (("call", 0, "p", (), "ra"),))
        self.assertIsNone(answer(L, system_of(deep), "p", ()))
        swapped = ("p", 1, 1, (("call", 0, "p", (("not", FLAG),), "ra"),))
        self.assertEqual([answer(L, system_of(swapped), "p", (bit,)) for bit in (0, 1)], [None, None])
        # Counts down from seven, and asks the same again on its way back.
        less = (("and", ("flag", 0), ("or", ("flag", 1), ("flag", 2))), ("and", ("flag", 1), ("flag", 2)), ("not", ("flag", 2)))
        count = ("p", 3, 3, (("if", ("or", ("flag", 0), ("or", ("flag", 1), ("flag", 2))), (
            ("call", 0, "p", less, "ra"), ("call", 1, "p", (0, 0, 0), "rb"), ("return", ("not", ("flag", 0)))), (("return", 1),)),))
        for bits in bits_of(3):
            self.assertEqual(answer(L, system_of(count), "p", bits), Plain(system_of(count)).answer("p", bits))

    def test_loops_with_calls(self):
        """A loop that ends because of its calls, and one that never ends although each call answers."""
        other = ("q", 1, 1, (("return", ("not", FLAG)),))
        ends = ("p", 1, 1, (("while", FLAG, (("call", 0, "q", (FLAG,), "ra"),)), ("return", 1)))
        never = ("p", 1, 2, (("while", 1, (("call", 0, "q", (FLAG,), "ra"),)),))
        for bit in (0, 1):
            self.assertEqual(answer(L, system_of(ends, other), "p", (bit,)), 1)
            self.assertIsNone(answer(L, system_of(never, other), "p", (bit,)))

    def test_errors(self):
        check_errors(self, answer, {0: L, 1: (EV, OD), 2: "even", 3: (1, 0)}, [LABELS, SYSTEMS, PROCEDURES, INPUTS])
        self.assertRaises(InvalidLabels, answer, ("f", "t", "u", "a"), (EV, OD), "even", (1, 0))
        self.assertRaises(InvalidProgram, answer, ("f", "ra", "t"), (EV, OD), "even", (1, 0))
        self.assertEqual(answer(TWELVE, (EV, OD), "even", (1, 0)), 1)
        before = copy.deepcopy((L, EV, OD))
        self.assertEqual(answer(L, (EV, OD), "even", (1, 1)), answer(L, (EV, OD), "even", (1, 1)))
        self.assertEqual((L, EV, OD), before)


class CallsTest(unittest.TestCase):
    def test_plain_evaluation(self):
        lengths = []
        for system in make_systems(172, 100):
            for name, inputs in all_runs(system):
                events, ended = events_of(system, name, inputs, 45)
                for limit in range(46):
                    self.assertEqual(calls_made(FULL, system, name, inputs, limit=limit), events[:limit], (system, name, inputs))
                self.assertEqual(ended and len(events) < 45, ended)
                told = calls_made(FULL, system, name, inputs)
                self.assertEqual(told[:45], events)
                if ended:
                    self.assertEqual(told, events)
                    self.assertEqual(told[-1], ("return", name, answer(FULL, system, name, inputs)))
                lengths.append(len(told) if ended or len(told) == 1000 else -len(told))
        self.assertGreater(lengths.count(1000), 40)
        self.assertGreater(len([one for one in lengths if one > 4]), 40)
        self.assertGreater(len([one for one in lengths if one < 0]), 20)
        self.assertGreater(len([one for one in lengths if one < -2]), 2)

    def test_limits(self):
        first = (("call", "even", (1, 1)), ("call", "odd", (1, 0)), ("call", "even", (0, 1)), ("call", "odd", (0, 0)))
        back = (("return", "odd", 0), ("return", "even", 0), ("return", "odd", 0), ("return", "even", 0))
        for limit in range(12):
            self.assertEqual(calls_made(L, (EV, OD), "even", (1, 1), limit=limit), (first + back)[:limit])
        self.assertEqual(calls_made(L, (EV, OD), "even", (1, 1), limit=10000), first + back)

    def test_deep_calls(self):
        deep = system_of(("p", 1, 1, (("call", 0, "p", (("not", FLAG),), "ra"),)))
        for limit, many in ((None, 1000), (0, 0), (1, 1), (999, 999), (10000, 10000)):
            told = calls_made(L, deep, "p", (0,), **({} if limit is None else {"limit": limit}))
            self.assertEqual(told, tuple(("call", "p", (at % 2,)) for at in range(many)))
        wide = system_of(("p", 1, 1, (("while", 1, (("call", 0, "q", (), "ra"),)),)), ("q", 0, 0, (("return", 1),)))
        told = calls_made(L, wide, "p", (0,), limit=10000)
        self.assertEqual(told, (("call", "p", (0,)),) + (("call", "q", ()), ("return", "q", 1)) * 4999 + (("call", "q", ()),))

    def test_loops_without_end(self):
        other = ("q", 0, 0, (("return", 1),))
        ahead = system_of(("p", 0, 1, (("while", 1, (("set", 0, ("not", FLAG)),)), ("call", 0, "q", (), "ra"))), other)
        self.assertEqual(calls_made(L, ahead, "p", ()), (("call", "p", ()),))
        behind = system_of(("p", 0, 1, (("call", 0, "q", (), "ra"), ("while", FLAG, ()))), other)
        self.assertEqual(calls_made(L, behind, "p", ()), (("call", "p", ()), ("call", "q", ()), ("return", "q", 1)))
        within = system_of(("p", 0, 1, (("call", 0, "q", (), "ra"),)), ("q", 0, 0, (("while", 1, ()),)))
        self.assertEqual(calls_made(L, within, "p", ()), (("call", "p", ()), ("call", "q", ())))
        for system in (ahead, behind, within):
            self.assertIsNone(answer(L, system, "p", ()))

    def test_long_bodies(self):
        """All eight statements at all three levels, in loops that count to eight; every call is found at once."""
        flip = ("if", ("and", FLAG, ("flag", 1)), (("set", 2, ("not", ("flag", 2))),), (("set", 1, ("or", FLAG, ("flag", 1))),))
        inner = ("while", ("not", ("and", FLAG, ("flag", 1))), (flip[3][0], ("set", 0, 1)) + (("set", 2, ("not", ("flag", 2))),) * 6)
        body = (("if", 1, (inner,) * 8, (inner,) * 8),) * 7 + (("while", 1, (("call", 0, "p", (), "ra"),)),)
        system = system_of(("p", 0, 3, body))
        self.assertEqual(calls_made(L, system, "p", (), limit=10000), (("call", "p", ()),) * 10000)
        self.assertIsNone(answer(L, system, "p", ()))

    def test_errors(self):
        faults = [LABELS, SYSTEMS, PROCEDURES, INPUTS]
        check_errors(self, calls_made, {0: L, 1: (EV, OD), 2: "even", 3: (1, 0)}, faults)
        check_errors(self, calls_made, {0: L, 1: (EV, OD), 2: "even", 3: (1, 0), "limit": 5}, faults + [LIMITS])
        for limit in (0, 1, 10000):
            self.assertLessEqual(len(calls_made(L, (EV, OD), "odd", (0, 0), limit=limit)), limit)


class RandomTest(unittest.TestCase):
    def test_equal_calls(self):
        draw = random.Random(173)
        for system in make_systems(174, 30):
            name, inputs = draw.choice(all_runs(system))
            before = copy.deepcopy((system, inputs))
            self.assertEqual(calls_made(FULL, system, name, inputs), calls_made(FULL, system, name, inputs))
            self.assertEqual((system, inputs), before)


if __name__ == "__main__":
    unittest.main()
