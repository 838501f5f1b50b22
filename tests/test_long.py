import random
import unittest

from piledoors.errors import InvalidBlocks, InvalidModule, UnknownEntry
from piledoors.results.long import result_of_blocks
from piledoors.results.results import result
from piledoors.stacks.blocks import blocks_length, dropped, is_blocks, label_at, same_stack, spelled
from tests.samples import AB, C, D, G, M, N, ODD, SAMPLES, check_errors, make_random_modules
from tests.test_blocks import LONG, WRONG_BLOCKS, plain, random_blocks
from tests.test_summaries import TWELVE, doubling

ABC = ("a", "b", "c")


def rings(lead, lengths):
    """Label a leads through some states into the first ring, label b from each ring to the next one.

    In every state, label c leaves with (state, in letters) a's by "odd" or "even", if the state is
    a multiple of three; it is stuck if the rest is one, and endless if it is two. The empty stack likewise.
    """
    size = lead + sum(lengths)
    rules = [(state, "a", state + 1, ()) for state in range(lead)]
    first = lead
    for length in lengths:
        following = first + length
        for at in range(length):
            # The ticks of the states differ: some of them put labels b on the stack first.
            rules.append((first + at, "a", first + (at + 1) % length, ()))
            rules.append((first + at, "b", following if following < size else first, ()))
        first = following
    for state in range(size):
        if state % 3 == 0:
            rules += [(state, top, "odd" if state % 2 else "even", ("a",) * (state % 20)) for top in ("", "c")]
        if state % 3 == 2:
            rules += [(state, "c", state, ("c", "a")), (state, "", state, ())]
    return (ABC, size, (("in", 0),), ("even", "odd"), tuple(sorted(rules)))


def ring_result(state, ticks, rest):
    if state % 3 == 0:
        return ("odd" if state % 2 else "even", ("a",) * (state % 20), rest, ticks + 1)
    return None


class LongTest(unittest.TestCase):
    def check(self, module, entry, blocks, told):
        """told: None, or the exit, the word, the blocks behind it and the ticks."""
        found = result_of_blocks(module, entry, blocks)
        if told is None:
            self.assertIsNone(found)
            return
        door, word, rest, ticks = told
        self.assertEqual((found[0], found[2]), (door, ticks))
        self.assertIs(is_blocks(module[0], found[1]), True)
        self.assertIs(same_stack(module[0], found[1], (((word, 1),) if word else ()) + rest), True)

    def test_example(self):
        self.assertEqual(result_of_blocks(C, "in", ((("b", "a"), 10 ** 20),)), ("out", (), 400000000000000000001))

    def test_against_result(self):
        draw = random.Random(11)
        for module in SAMPLES + tuple(make_random_modules(12, 150, AB, 4, 2)):
            for name, _ in module[2]:
                for _ in range(12):
                    blocks = random_blocks(draw)
                    told = result(module, name, plain(blocks))
                    found = result_of_blocks(module, name, blocks)
                    if told is None:
                        self.assertIsNone(found)
                    else:
                        self.assertIs(is_blocks(AB, found[1]), True)
                        self.assertEqual((found[0], spelled(AB, found[1]), found[2]), told)

    def test_long_stacks(self):
        many = 10 ** 30
        self.check(D, "in", ((("a",), many),), ("low", (), (), many + 1))
        self.check(D, "in", ((("a",), many), (("a", "b", "a"), many)),
                   ("out", ("b",), ((("a",), 1), (("a", "b", "a"), many - 1)), many + 2))
        self.check(D, "in", ((("a", "a"), many), (("b",), 1)), ("out", ("b",), (), 2 * many + 1))
        self.check(N, "in", LONG, ("out", (), LONG, 1))
        self.check(M, "in", LONG, ("out", (), LONG, 2))
        self.check(G, "in", LONG, None)
        self.check(G, "in", (), ("out", (), (), 1))
        self.check(C, "in", ((("a",), many),) * 40, ("out", (), (), 40 * many + 1))

    def test_large_ticks(self):
        module = doubling()
        _, _, ticks = result(module, "in", TWELVE)
        self.assertEqual(result_of_blocks(module, "in", ((TWELVE, 10 ** 30),)), ("out", (), (ticks - 1) * 10 ** 30 + 1))

    def test_one_ring(self):
        ends = set()
        for lead in (0, 1, 2, 5):
            for length in (1, 2, 3, 7, 12, 90):
                module = rings(lead, (length,))
                for times in (1, 2, lead + length - 1, lead + length, lead + length + 1, 3 * length, 10 ** 30 - 1, 10 ** 30):
                    if times < 1:
                        continue
                    state = times if times < lead else lead + (times - lead) % length
                    rest = ((("b", "a"), 10 ** 30),)
                    for blocks, left in ((((("a",), times),), ()), (((("a",), times), (("c",), 1)) + rest, rest),
                                         (((("a",), times), (("c",), 10 ** 30)), ((("c",), 10 ** 30 - 1),))):
                        told = ring_result(state, times, left)
                        if times > 1 or left:
                            ends.add((told is None, state % 3))
                        self.check(module, "in", blocks, told)
        self.assertEqual(ends, {(False, 0), (True, 1), (True, 2)})

    def test_words_of_several_labels_in_a_ring(self):
        for length in (2, 3, 4, 6, 9, 10):
            module = rings(0, (length,))
            for size in range(1, 12):
                for times in (5, 10 ** 30, 10 ** 30 - 7):
                    state = size * times % length
                    self.check(module, "in", ((("a",) * size, times),), ring_result(state, size * times, ()))

    def test_rings_of_different_lengths(self):
        lengths = (2, 3, 5, 7, 11, 13)
        module = rings(4, lengths)
        draw = random.Random(13)
        for _ in range(60):
            blocks = []
            ticks = 0
            state = 0
            first = 4
            for length in lengths:
                times = 10 ** 30 - draw.randint(0, 10 ** 6)
                state = first + (times - (4 if first == 4 else 0)) % length
                blocks += [(("a",), times), (("b",), 1)]
                ticks += times + 1
                first += length
            told = ring_result(state, ticks - 1, ((("b", "c"), 5),))
            self.check(module, "in", tuple(blocks[:-1]) + ((("c",), 1), (("b", "c"), 5)), told)

    def test_the_end_within_a_repetition(self):
        module = rings(0, (4,))
        told = result(module, "in", ("a", "a", "a", "c"))
        self.assertEqual(told, ("odd", ("a",) * 3, 4))
        self.check(module, "in", ((("a",), 10 ** 30 - 1), (("c", "b"), 10 ** 30)),
                   ("odd", ("a",) * 3, ((("b",), 1), (("c", "b"), 10 ** 30 - 1)), 10 ** 30))

    def test_what_is_left_is_far_down(self):
        found = result_of_blocks(D, "in", ((("a",), 10 ** 30), (("b", "a"), 10 ** 30)))
        left = ((("b", "a"), 10 ** 30),)
        self.assertEqual(blocks_length(AB, found[1]), 2 * 10 ** 30)
        self.assertEqual([label_at(AB, found[1], at) for at in (0, 1, 10 ** 30)], ["b", "a", "b"])
        self.assertIs(same_stack(AB, dropped(AB, found[1], 1), dropped(AB, left, 1)), True)

    def test_errors(self):
        check_errors(self, result_of_blocks, {0: D, 1: "in", 2: LONG}, [
            (0, ODD, InvalidModule, None), (1, ODD + ("out", "low", 0, ("in",)), UnknownEntry, "name"),
            (2, WRONG_BLOCKS, InvalidBlocks, None)])
