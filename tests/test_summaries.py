import copy
import unittest

from piledoors.errors import InvalidModule, InvalidStack, UnknownState
from piledoors.summaries.summaries import is_summary_paper, summaries, summary, visited_heads
from tests.samples import AB, C, D, G, ODD, SAMPLES, chain, check_errors, make_random_modules, walk_head

MODULES = (0, ODD, InvalidModule, None)
STATES = (1, (1, -1, True, False, None, "0", (0,), [0], {}, 10 ** 39), UnknownState, "state")
TOPS = (2, ("c", "A", "ab", None, 0, ("a",), ["a"], {}, ()), InvalidStack, None)

# State 0 and a need state 1 and b, and the other way round; only the empty stack and (1, "a") end.
TANGLE = (AB, 2, (), ("out",), (
    (0, "", 1, ()), (0, "a", 1, ("b", "a")), (1, "", "out", ("b",)), (1, "a", 0, ()), (1, "b", 0, ("a",))))
TWELVE = tuple("abcdefghijkl")


def doubling():
    """Each of twelve labels is replaced by twenty of the next one; the last one is removed."""
    rules = [(0, label, 0, (needed,) * 20) for label, needed in zip(TWELVE, TWELVE[1:])]
    return (TWELVE, 1, (("in", 0),), ("out",), ((0, "", "out", ()),) + tuple(rules) + ((0, "l", 0, ()),))


def piling():
    """A hundred states in a row; each leaves nineteen more labels on the stack than the next one."""
    rules = [(state, "a", state + 1, ("a",) + ("b",) * 19) for state in range(99)]
    rules.append((99, "a", "out", ("a",) * 20))
    return (AB, 100, (("in", 0),), ("out",), tuple(rules))


def tall():
    """The same over all 1200 heads with a label, so that the words become as long as they can."""
    module, row = chain(1200, ("out", ("l",) * 20))
    rules = [rule if rule[2] == "out" else rule[:3] + (rule[3] + ("k",) * 19,) for rule in module[4]]
    return module[:4] + (tuple(rules),), row


class ExamplesTest(unittest.TestCase):
    def test_examples(self):
        self.assertEqual([summary(D, 0, "a"), summary(D, 0, "b"), summary(C, 0, "b"), summary(G, 0, "a")],
                         [("pop", 0, 1), ("exit", "out", ("b",), 1), ("pop", 0, 3), ("never",)])
        self.assertEqual(summaries(G), {(0, ""): ("exit", "out", (), 1), (0, "a"): ("never",), (0, "b"): ("never",)})
        self.assertEqual([visited_heads(C, 0, "b"), visited_heads(G, 0, "a"), visited_heads(G, 0, "b")],
                         [((0, "a"), (0, "b")), ((0, "a"),), ((0, "b"),)])
        self.assertIs(is_summary_paper(C, {(0, "b"): ("pop", 0, 3), (0, "a"): ("pop", 0, 1),
                                           (0, ""): ("exit", "out", (), 1)}), True)
        self.assertIs(is_summary_paper(C, {(0, ""): ("exit", "out", (), 1), (0, "a"): ("pop", 0, 1),
                                           (0, "b"): ("pop", 0, 2)}), False)


class WalkedTest(unittest.TestCase):
    def check_module(self, module, limit):
        table = summaries(module)
        heads = [(state, top) for state in range(module[1]) for top in ("",) + module[0]]
        self.assertEqual(list(table), heads)
        for head in heads:
            told, visited = walk_head(module, *head, limit)
            self.assertEqual(table[head], told, (module, head))
            self.assertEqual(summary(module, *head), told)
            self.assertEqual(visited_heads(module, *head), visited, (module, head))

    def test_samples(self):
        for module in SAMPLES + (TANGLE,):
            self.check_module(module, 500)

    def test_small_modules(self):
        ends = set()
        for module in make_random_modules(3, 150, AB, 2, 2) + make_random_modules(4, 100, ("a",), 3, 3):
            self.check_module(module, 1500)
            ends |= {told[0] for told in summaries(module).values()}
        self.assertEqual(ends, {"pop", "exit", "never"})

    def test_heads_with_the_empty_top(self):
        module = (AB, 4, (), ("out",), (
            (0, "", 1, ("a", "b")), (1, "", "out", ("b", "a")), (1, "a", 2, ()), (2, "", 3, ()), (2, "b", 1, ()),
            (3, "", 2, ("a",)), (3, "b", "out", ())))
        self.check_module(module, 500)
        self.assertEqual(summary(module, 0, ""), ("exit", "out", ("b", "a"), 4))
        self.assertEqual(visited_heads(module, 0, ""), ((0, ""), (1, ""), (1, "a"), (2, "b")))
        self.assertEqual(summary(module, 2, ""), ("never",))
        self.assertEqual(visited_heads(module, 2, ""), ((2, ""), (2, "a"), (3, "")))
        self.assertEqual(summary(module, 0, "a"), ("never",))
        self.assertEqual(visited_heads(module, 0, "a"), ((0, "a"),))

    def test_exit_in_the_middle_of_a_push(self):
        module = (AB, 1, (), ("out",), ((0, "", 0, ("b", "b", "a", "b")), (0, "a", "out", ("a", "a")), (0, "b", 0, ())))
        self.assertEqual(summary(module, 0, ""), ("exit", "out", ("a", "a", "b"), 4))

    def test_equal_calls(self):
        table = summaries(C)
        table[(0, "a")] = ("never",)
        del table[(0, "b")]
        self.assertEqual(summaries(C)[(0, "a")], ("pop", 0, 1))
        self.assertEqual(len(summaries(C)), 3)


class LargeTest(unittest.TestCase):
    def test_chains(self):
        for heads in (1200, 1300):
            module, row = chain(heads, (42, ()))
            told = ("pop", 42, 1200)
            self.assertEqual(summary(module, 0, "a"), told)
            self.assertEqual(summaries(module)[(0, "a")], told)
            self.assertEqual(summaries(module)[row[-1]], ("pop", 42, 1))
        module, row = chain(1300, ("out", ("a", "b")))
        self.assertEqual([len(row), row[0]], [1300, (0, "")])
        self.assertEqual(summary(module, 0, ""), ("exit", "out", ("a", "b"), 1300))
        self.assertEqual(visited_heads(module, 0, ""), tuple(sorted(row)))
        self.assertEqual(len(visited_heads(module, 99, "")), 1201)

    def test_rings(self):
        for heads, back in ((1200, (0, ("a",))), (1300, (0, ("a",)))):
            module, row = chain(heads, back)
            table = summaries(module)
            self.assertEqual(set(table[head] for head in row), {("never",)})
            self.assertEqual(visited_heads(module, *row[0]), tuple(sorted(row)))
            self.assertIs(is_summary_paper(module, table), True)
            table[row[-1]] = ("pop", 0, 1)
            self.assertIs(is_summary_paper(module, table), False)
            for head in row:
                table[head] = ("pop", 0, 1)
            self.assertIs(is_summary_paper(module, table), False)

    def test_large_ticks(self):
        ticks = 1
        for label in TWELVE[::-1]:
            self.assertEqual(summary(doubling(), 0, label), ("pop", 0, ticks))
            ticks = 1 + 20 * ticks
        self.assertEqual(visited_heads(doubling(), 0, "a"), tuple((0, label) for label in TWELVE))

    def test_long_words(self):
        module = piling()
        for state in (0, 1, 50, 98, 99):
            word = ("a",) * 20 + ("b",) * (19 * (99 - state))
            self.assertEqual(summary(module, state, "a"), ("exit", "out", word, 100 - state))
        self.assertEqual(summary(module, 0, "b"), ("never",))
        self.assertEqual(summary(module, 0, ""), ("never",))
        module, row = tall()
        told = ("exit", "out", ("l",) * 20 + ("k",) * (19 * 1199), 1200)
        self.assertEqual(summary(module, *row[0]), told)
        table = summaries(module)
        self.assertEqual(table[row[0]], told)
        self.assertIs(is_summary_paper(module, table), True)


class PaperTest(unittest.TestCase):
    def test_the_paper_in_any_order(self):
        for module in SAMPLES + (TANGLE, doubling(), piling()) + tuple(make_random_modules(5, 40, AB, 3, 2)):
            paper = summaries(module)
            self.assertIs(is_summary_paper(module, paper), True)
            turned = {head: paper[head] for head in list(paper)[::-1]}
            self.assertIs(is_summary_paper(module, turned), True)
            self.assertEqual(list(turned), list(paper)[::-1])

    def test_one_part_changed(self):
        for module in SAMPLES + (TANGLE,) + tuple(make_random_modules(6, 25, AB, 2, 2)):
            paper = summaries(module)
            for head, told in paper.items():
                for wrong in self.changes(told):
                    self.assertIs(is_summary_paper(module, paper | {head: wrong}), False, (module, head, wrong))
                fewer = dict(paper)
                del fewer[head]
                self.assertIs(is_summary_paper(module, fewer), False)
                self.assertIs(is_summary_paper(module, {**fewer, (head[0], "zz"): told}), False)
            for extra in ((module[1], "a"), (0, "c"), "a", (0,), (), None, (0, "a", ()), 0):
                self.assertIs(is_summary_paper(module, {**paper, extra: ("never",)}), False, extra)

    def changes(self, told):
        wrong = [("pop", 0, 77), ("exit", "out", (), 77), ("pop", 0, 0), None, [], {}, "never", (), list(told), told + (0,),
                 told[:-1], ("stuck",)]
        if told[0] == "never":
            return wrong + [("pop", 0, 1), ("exit", "out", (), 1)]
        wrong += [("never",), told[:-1] + (told[-1] + 1,), told[:-1] + (told[-1] - 1,), told[:-1] + (str(told[-1]),)]
        if told[-1] == 1:
            wrong.append(told[:-1] + (True,))
        if told[0] == "pop":
            wrong += [("pop", told[1] + 1, told[2]), ("exit", "out", (), told[2])]
            if told[1] in (0, 1):
                wrong.append(("pop", bool(told[1]), told[2]))
        else:
            wrong += [("exit", "other", told[2], told[3]), ("exit", told[1], told[2] + ("a",), told[3]),
                      ("exit", told[1], list(told[2]), told[3]), ("exit", told[1], ("b",) + told[2], told[3])]
        return wrong

    def test_keys_are_no_booleans(self):
        module = (AB, 2, (), ("out",), ((0, "a", 1, ()),))
        paper = summaries(module)
        self.assertIs(is_summary_paper(module, paper), True)
        for at in (0, 1):
            changed = {(bool(head[0]) if head[0] == at else head[0], head[1]): told for head, told in paper.items()}
            self.assertEqual(changed, paper)
            self.assertIs(is_summary_paper(module, changed), False)
        one = {head: told for head, told in paper.items() if head != (0, "b")}
        self.assertIs(is_summary_paper(module, {**one, (False, "b"): ("never",)}), False)

    def test_rings_have_no_other_paper(self):
        module = (AB, 2, (), ("out",), ((0, "a", 1, ("b",)), (1, "b", 0, ("a",))))
        paper = summaries(module)
        self.assertEqual(set(paper.values()), {("never",)})
        for first in (("pop", 0, 2), ("exit", "out", (), 2), ("pop", 1, 1)):
            for second in (("pop", 0, 1), ("exit", "out", (), 1), ("pop", 1, 2), ("never",)):
                self.assertIs(is_summary_paper(module, {**paper, (0, "a"): first, (1, "b"): second}), False)

    def test_values_that_are_no_dict(self):
        paper = summaries(D)
        for value in ODD + (tuple(paper.items()), list(paper.items()), list(paper), tuple(paper), {}, str(paper), D):
            self.assertIs(is_summary_paper(D, value), False, value)
        self.assertIs(is_summary_paper(D, summaries(C)), False)

    def test_nothing_is_changed(self):
        paper = summaries(TANGLE)
        before = copy.deepcopy(list(paper.items()))
        is_summary_paper(TANGLE, paper)
        self.assertEqual(list(paper.items()), before)


class ErrorsTest(unittest.TestCase):
    def test_errors(self):
        check_errors(self, summary, {0: D, 1: 0, 2: "a"}, [MODULES, STATES, TOPS])
        check_errors(self, visited_heads, {0: D, 1: 0, 2: "a"}, [MODULES, STATES, TOPS])
        check_errors(self, summaries, {0: D}, [MODULES])
        check_errors(self, is_summary_paper, {0: D, 1: summaries(D)}, [MODULES])
        check_errors(self, is_summary_paper, {0: D, 1: []}, [MODULES])
