"""The keyword parameters of the whole program: left out, given, and in any order."""

import inspect
import itertools
import unittest

from piledoors.compare.equivalence import are_equivalent, is_likeness, likeness, reading, separating_stack
from piledoors.errors import InvalidClaim
from piledoors.interfaces.interfaces import interface
from piledoors.interfaces.settled import refutation, settled
from piledoors.linking.contexts import separating_context
from piledoors.linking.interfaces import link_interfaces, link_self_interface, rename_interface
from piledoors.linking.link import link, link_self, rename
from piledoors.modules.modules import make_module
from piledoors.procedures.plain import calls_made
from piledoors.runs.runs import trace
from piledoors.workshop.workshop import Workshop
from tests.programs import EV, L, OD
from tests.samples import AB, D, E, H, M, N

W = (((0, "out"), (1, "cut")), ((1, "next"), (0, "in")))
CLOCK = {"clock": False}
CALLS = (
    (make_module, (AB, 1), {"entries": (), "exits": (), "rules": ()}, {"entries": D[2], "exits": D[3], "rules": D[4]}),
    (trace, (D, "in", ("a", "b")), {"limit": 100}, {"limit": 1}),
    (settled, (M, 0), CLOCK, {"clock": True}),
    (interface, (M,), CLOCK, {"clock": True}),
    (reading, (M, 0, "a"), CLOCK, {"clock": True}),
    (are_equivalent, (M, N), CLOCK, {"clock": True}),
    (separating_stack, (M, N), CLOCK, {"clock": True}),
    (likeness, (M, N), CLOCK, {"clock": True}),
    (is_likeness, (M, N, ()), CLOCK, {"clock": True}),
    (separating_context, (M, N), CLOCK, {"clock": True}),
    (link, (D, E, W), {"kept": ()}, {"kept": ((0, "in"),)}),
    (link_self, (H, (("more", "in"),)), {"kept": ()}, {"kept": ("in",)}),
    (rename, (D,), {"entries": (), "exits": ()}, {"entries": (("in", "go"),), "exits": (("low", "done"), ("out", "done"))}),
    (link_interfaces, (interface(D), interface(E), W), {"kept": ()}, {"kept": ((0, "in"), (1, "cut"))}),
    (link_self_interface, (interface(H), (("more", "in"),)), {"kept": ()}, {"kept": ("in",)}),
    (rename_interface, (interface(D),), {"entries": (), "exits": ()}, {"entries": (("in", "go"),), "exits": (("low", "done"),)}),
    (calls_made, (L, (EV, OD), "even", (1, 1)), {"limit": 1000}, {"limit": 3}),
)
METHODS = (
    ("link", ("x", "d", "e", W), {"kept": ()}, {"kept": ((0, "in"),)}),
    ("undo", (), {"many": 1}, {"many": 2}),
    ("redo", (), {"many": 1}, {"many": 2}),
    ("interface", ("m",), CLOCK, {"clock": True}),
    ("equivalent", ("m", "n"), CLOCK, {"clock": True}),
)


def make_workshop():
    workshop = Workshop(AB)
    workshop.apply_all(tuple(("add", name, module) for name, module in (("d", D), ("e", E), ("m", M), ("n", N), ("y", D), ("z", D))))
    workshop.undo()
    workshop.undo()
    return workshop


class KeywordsTest(unittest.TestCase):
    def check(self, call, given, defaults, others):
        """The defaults are those of the document; other values count, in whatever order they are given."""
        found = call(*given)
        for order in itertools.permutations(defaults.items()):
            self.assertEqual(call(*given, **dict(order)), found)
        changed = {repr(call(*given, **dict(order))) for order in itertools.permutations(others.items())}
        self.assertEqual(len(changed), 1)
        self.assertNotEqual(changed, {repr(found)})
        parameters = inspect.signature(call).parameters.values()
        self.assertEqual({one.name: one.default for one in parameters if one.kind == one.KEYWORD_ONLY}, defaults)
        self.assertTrue(all(one.kind in (one.KEYWORD_ONLY, one.POSITIONAL_OR_KEYWORD) for one in parameters))

    def test_functions(self):
        for call, given, defaults, others in CALLS:
            with self.subTest(call.__name__):
                self.check(call, given, defaults, others)

    def test_claims(self):
        """A claim with clock is another one than without."""
        claim = ("exit", "out", (), 0)
        self.assertEqual([refutation(M, 0, claim), refutation(M, 0, claim, clock=False)], [None, None])
        self.assertRaises(InvalidClaim, refutation, M, 0, claim, clock=True)

    def test_methods(self):
        for name, given, defaults, others in METHODS:
            with self.subTest(name):
                def call(*positions, **more):
                    workshop = make_workshop()
                    told = getattr(workshop, name)(*positions, **more)
                    return told, workshop.log(), workshop.names()
                self.assertEqual(call(*given), call(*given, **defaults))
                self.assertNotEqual(call(*given), call(*given, **others))
                parameters = inspect.signature(getattr(Workshop, name)).parameters.values()
                self.assertEqual({one.name: one.default for one in parameters if one.kind == one.KEYWORD_ONLY}, defaults)


if __name__ == "__main__":
    unittest.main()
