"""The main guarantee (0.12) for compiled programs, linked modules, and modules that were edited."""

import random
import unittest

from piledoors.compare.equivalence import are_equivalent, is_likeness, likeness, separating_stack
from piledoors.compare.replacement import is_replacement, may_replace, replacement
from piledoors.compare.slowdown import is_slowdown, slowdown
from piledoors.errors import TooLarge
from piledoors.interfaces.interfaces import interface, interface_result, is_interface
from piledoors.interfaces.realize import least_form, least_module, state_count
from piledoors.linking.contexts import context_outcome, separating_context
from piledoors.linking.interfaces import link_interfaces
from piledoors.procedures.compiler import program_module, system_module
from piledoors.results.results import result
from piledoors.runs.moments import fate, is_fate
from piledoors.summaries.summaries import is_summary_paper, summaries
from piledoors.text.formats import format_interface, format_module, parse_interface, parse_module
from piledoors.text.shell import Shell
from piledoors.workshop.workshop import Workshop
from tests.programs import EV, FULL, L, OD, make_systems
from tests.samples import with_other_rule, with_slower_rule

EVEN_WIRES = (((0, "back"), (1, "back")), ((0, "odd"), (1, "odd")), ((1, "back"), (0, "back")), ((1, "even"), (0, "even")))
EVEN_KEPT = ((0, "even"), (1, "odd"))


def random_stack(draw, labels):
    return tuple(draw.choice(labels) for _ in range(draw.randrange(9)))


class WholeTest(unittest.TestCase):
    def check_module(self, draw, module):
        """What is told of one module agrees with its results."""
        self.assertIs(is_summary_paper(module, summaries(module)), True)
        self.assertEqual(parse_module(format_module(module)), module)
        for clock in (False, True):
            told = interface(module, clock=clock)
            self.assertIs(is_interface(told), True)
            self.assertEqual(parse_interface(format_interface(told)), told)
            for name, _ in module[2]:
                for _ in range(6):
                    stack = random_stack(draw, module[0])
                    found = result(module, name, stack)
                    self.assertEqual(interface_result(told, name, stack), found if clock or not found else found[:2] + (0,))
                    self.assertIs(is_fate(module, name, stack, fate(module, name, stack)), True)
        least = least_form(module)
        self.assertEqual((least_module(interface(module)), state_count(interface(module))), (least, least[1]))
        self.check_equivalent(module, least)

    def check_equivalent(self, first, second):
        self.assertIs(are_equivalent(first, second), True)
        self.assertIs(is_likeness(first, second, likeness(first, second)), True)
        for one, two in ((first, second), (second, first)):
            self.assertIs(is_replacement(one, two, replacement(one, two)), True)
            self.assertIs(is_slowdown(one, two, slowdown(one, two)), True)

    def check_different(self, first, second):
        entry, stack = separating_stack(first, second)
        one, two = result(first, entry, stack), result(second, entry, stack)
        self.assertNotEqual(one and one[:2], two and two[:2])
        self.assertFalse(may_replace(first, second) and may_replace(second, first))
        try:
            context = separating_context(first, second)
        except TooLarge:
            return
        outcomes = [context_outcome(module, context) for module in (first, second)]
        self.assertEqual(outcomes.count(None), 1)

    def test_compiled_programs(self):
        draw = random.Random(231)
        equal = different = 0
        for system in make_systems(232, 25):
            modules = [program_module(FULL, program) for program in system] + [system_module(FULL, system)]
            for module in modules:
                self.check_module(draw, module)
                if module[1] == 100:
                    continue
                other = draw.choice([with_slower_rule, with_other_rule])(module, draw)
                if are_equivalent(module, other):
                    equal += 1
                    self.check_equivalent(module, other)
                else:
                    different += 1
                    self.check_different(module, other)
        self.assertGreater(min(equal, different), 10)

    def test_linked_programs(self):
        """The two programs of the document, linked in a workshop, are their system; also after edits that are undone."""
        even, odd, both = program_module(L, EV), program_module(L, OD), system_module(L, (EV, OD))
        workshop = Workshop(L)
        workshop.add("ev", even)
        workshop.add("od", odd)
        workshop.link("all", "ev", "od", EVEN_WIRES, kept=EVEN_KEPT)
        workshop.add("sys", both)
        for clock in (False, True):
            told = link_interfaces(interface(even, clock=clock), interface(odd, clock=clock), EVEN_WIRES, kept=EVEN_KEPT)
            self.assertEqual(workshop.interface("all", clock=clock), told)
        self.assertIs(workshop.equivalent("all", "sys"), True)
        self.check_equivalent(workshop.module("all"), both)
        for rule in even[4]:
            workshop.set_rule("ev", *rule[:2], "end", ())
            changed = workshop.module("all")
            self.assertEqual(workshop.interface("all"), interface(changed))
            if not workshop.equivalent("all", "sys"):
                self.check_different(changed, both)
            workshop.undo()
            self.assertIs(workshop.equivalent("all", "sys"), True)

    def test_in_a_shell(self):
        shell = Shell(L)
        for name, module in (("ev", program_module(L, EV)), ("od", program_module(L, OD)), ("sys", system_module(L, (EV, OD)))):
            self.assertEqual(shell.run(f"add {name}\n{format_module(module)}"), "ok")
            self.assertEqual(shell.run_all((f"least x {name}", f"equivalent x {name}", f"replaces {name} x", "undo 1")), ("ok", "yes", "yes", "ok"))
        self.assertEqual(shell.run("result sys even t f").split(" ")[0::2], ["end", "t"])
        self.assertEqual(shell.run("result ev even t f").split(" ")[0::2], ["odd"] + ["f", "ra", "f"])


if __name__ == "__main__":
    unittest.main()
