import random
import unittest

from piledoors.errors import InvalidBlocks, InvalidLabels, InvalidNumber, TooLarge
from piledoors.stacks import blocks as module_of_blocks
from piledoors.stacks.blocks import blocks_length, dropped, is_blocks, label_at, same_stack, spelled
from tests.samples import AB, ODD, check_errors

LONG = ((("a", "b", "a"), 10 ** 20), (("b",), 1))
FAR = ((("a", "b"), 10 ** 30), (("b",), 3), (("b", "a", "a"), 10 ** 30))
WRONG_BLOCKS = ODD + ((("a",), 1), ((("a",), 0),), (((), 1),), ((("a",), 10 ** 30 + 1),), ((("a",), True),),
                      ((["a"], 1),), (("a", 1),), ((("c",), 1),), ((("a",), 1, 1),), ((("a",),),), [(("a",), 1)],
                      ([("a",), 1],), ((("a",), -1),), ((("a",), None),), ((("a",), "1"),), (LONG[0], ((), 1)))


def plain(blocks):
    return tuple(label for word, times in blocks for label in word * times)


def random_blocks(draw, most=4):
    return tuple((tuple(draw.choice(AB) for _ in range(draw.randint(1, 4))), draw.randint(1, 4))
                 for _ in range(draw.randint(0, most)))


def other_blocks(draw, stack):
    """Other blocks for the same stack: it is cut into words, some of which are written as repetitions."""
    made = []
    while stack:
        size = draw.randint(1, 3)
        word = stack[:size]
        times = 1
        while stack[:size * (times + 1)] == word * (times + 1) and draw.random() < 0.8:
            times += 1
        made.append((word, times))
        stack = stack[len(word) * times:]
    return tuple(made)


def fibonacci_word(length):
    first, second = ("a",), ("a", "b")
    while len(first) < length:
        first, second = second, second + first
    return first[:length]


class ExamplesTest(unittest.TestCase):
    def test_examples(self):
        self.assertEqual([module_of_blocks.MAX_TIMES, module_of_blocks.MAX_SPELLED], [10 ** 30, 10000])
        self.assertEqual([is_blocks(AB, ((("a", "b"), 10 ** 30),)), is_blocks(AB, (((), 2),)),
                          is_blocks(("a",), ((("a",), 0),))], [True, False, False])
        self.assertEqual([blocks_length(AB, LONG), label_at(AB, LONG, 1), label_at(AB, LONG, 3 * 10 ** 20),
                          label_at(AB, LONG, 10 ** 25)], [300000000000000000001, "b", "b", ""])
        first = ((("a", "b"), 10 ** 20), (("a",), 1))
        self.assertEqual([same_stack(AB, first, ((("a",), 1), (("b", "a"), 10 ** 20))),
                          same_stack(AB, first, ((("a", "b"), 10 ** 20),))], [True, False])
        self.assertEqual(spelled(AB, dropped(AB, ((("a", "b"), 10 ** 20),), 2 * 10 ** 20 - 3)), ("b", "a", "b"))


class IsBlocksTest(unittest.TestCase):
    def test_values(self):
        for value in ((), LONG, FAR, ((("a",), 1),), ((("a",) * 500, 1),) * 50):
            self.assertIs(is_blocks(AB, value), True)
        for value in WRONG_BLOCKS:
            self.assertIs(is_blocks(AB, value), False, value)


class LabelsTest(unittest.TestCase):
    def test_short_stacks(self):
        draw = random.Random(9)
        for _ in range(200):
            blocks = random_blocks(draw)
            stack = plain(blocks)
            self.assertEqual(blocks_length(AB, blocks), len(stack))
            self.assertEqual(spelled(AB, blocks), stack)
            self.assertEqual(tuple(label_at(AB, blocks, at) for at in range(len(stack) + 2)), stack + ("", ""))
            for many in range(len(stack) + 2):
                rest = dropped(AB, blocks, many)
                self.assertIs(is_blocks(AB, rest), True)
                self.assertEqual(plain(rest), stack[many:], (blocks, many))

    def test_borders(self):
        self.assertEqual(blocks_length(AB, FAR), 5 * 10 ** 30 + 3)
        for at, label in ((0, "a"), (1, "b"), (2 * 10 ** 30 - 2, "a"), (2 * 10 ** 30 - 1, "b"), (2 * 10 ** 30, "b"),
                          (2 * 10 ** 30 + 2, "b"), (2 * 10 ** 30 + 3, "b"), (2 * 10 ** 30 + 4, "a"),
                          (5 * 10 ** 30 + 2, "a"), (5 * 10 ** 30 + 3, ""), (10 ** 39, "")):
            self.assertEqual(label_at(AB, FAR, at), label, at)
        self.assertEqual([blocks_length(AB, ()), label_at(AB, (), 0), spelled(AB, ())], [0, "", ()])

    def test_spelled_limit(self):
        for blocks in (((("a",), 10000),), ((("a", "b"), 4999), (("b",), 2)), ((("a",) * 10000, 1),)):
            self.assertEqual(spelled(AB, blocks), plain(blocks))
            self.assertEqual(len(spelled(AB, blocks)), 10000)
        for blocks in (((("a",), 10001),), ((("a", "b"), 5000), (("b",), 1)), LONG, FAR):
            with self.assertRaises(TooLarge) as caught:
                spelled(AB, blocks)
            self.assertEqual(caught.exception.limit, 10000)


class DroppedTest(unittest.TestCase):
    def test_far(self):
        total = blocks_length(AB, FAR)
        for many in (0, 1, 2, 10 ** 30, 2 * 10 ** 30 - 1, 2 * 10 ** 30, 2 * 10 ** 30 + 3, 2 * 10 ** 30 + 4, total - 1,
                     total, total + 1, 10 ** 39):
            rest = dropped(AB, FAR, many)
            self.assertIs(is_blocks(AB, rest), True)
            self.assertEqual(blocks_length(AB, rest), max(total - many, 0))
            for at in (0, 1, 2, 5, 10 ** 30, 10 ** 30 + 1, 2 * 10 ** 30 + 1):
                self.assertEqual(label_at(AB, rest, at), label_at(AB, FAR, many + at))
        self.assertIs(same_stack(AB, dropped(AB, FAR, 0), FAR), True)
        self.assertEqual([dropped(AB, FAR, total), dropped(AB, FAR, 10 ** 39), dropped(AB, (), 0)], [(), (), ()])


class SameStackTest(unittest.TestCase):
    def test_short_stacks(self):
        draw = random.Random(10)
        found = [0, 0]
        for _ in range(400):
            first = random_blocks(draw, 3)
            stack = plain(first)
            self.assertIs(same_stack(AB, first, other_blocks(draw, stack)), True)
            second = random_blocks(draw, 2)
            same = stack == plain(second)
            self.assertIs(same_stack(AB, first, second), same)
            found[same] += 1
            if stack:
                at = draw.randrange(len(stack))
                changed = stack[:at] + ("b" if stack[at] == "a" else "a",) + stack[at + 1:]
                self.assertIs(same_stack(AB, first, other_blocks(draw, changed)), False)
                self.assertIs(same_stack(AB, other_blocks(draw, changed), first), False)
        self.assertGreater(min(found), 0)

    def test_long_stacks(self):
        six = ("a", "b", "a", "a", "b", "a")
        for first, second in (
                (((("a", "b"), 3 * 10 ** 29),), ((("a", "b", "a", "b", "a", "b"), 10 ** 29),)),
                (((six, 10 ** 29),), ((("a", "b"), 1), (("a", "a", "b"), 2 * 10 ** 29 - 1), (("a",), 1))),
                (((("a",), 10 ** 30), (("a",) * 7, 10 ** 29)), ((("a",) * 17, 10 ** 29),)),
                (((("a",), 10 ** 30),) * 50, ((("a",) * 2, 10 ** 30),) * 25)):
            self.assertIs(same_stack(AB, first, second), True)
            self.assertIs(same_stack(AB, second, first), True)
            self.assertIs(same_stack(AB, first, dropped(AB, second, 1)), False)
            self.assertIs(same_stack(AB, first + ((("a",), 1),), second + ((("b",), 1),)), False)
            self.assertIs(same_stack(AB, dropped(AB, first, 10 ** 29 + 1), dropped(AB, second, 10 ** 29 + 1)), True)

    def test_one_label_far_inside(self):
        first = ((("a", "b"), 10 ** 30), (("a", "b"), 10 ** 30))
        second = ((("a", "b"), 10 ** 30 - 1), (("a", "a"), 1), (("a", "b"), 10 ** 30))
        self.assertEqual(blocks_length(AB, first), blocks_length(AB, second))
        self.assertIs(same_stack(AB, first, second), False)
        self.assertIs(same_stack(AB, second, first), False)
        end = ((("a",), 10 ** 30), (("b",), 1))
        self.assertIs(same_stack(AB, end, ((("a",), 10 ** 30), (("a",), 1))), False)
        self.assertIs(same_stack(AB, end, ((("a",) * 10, 10 ** 29), (("b",), 1))), True)
        self.assertIs(same_stack(AB, end, ((("a",) * 10, 10 ** 29 - 1), (("a",) * 9, 1), (("b", "a"), 1))), False)

    def test_words_that_agree_for_long(self):
        for short, long in ((5, 8), (8, 5), (89, 144), (144, 89)):
            first = fibonacci_word(short)
            second = fibonacci_word(long)
            agree = short + long - 2
            self.assertEqual((first * 3)[:agree], (second * 3)[:agree])
            self.assertNotEqual((first * 3)[:agree + 1], (second * 3)[:agree + 1])
            many = 10 ** 25
            for head in ((), ((("b", "a", "b"), 10 ** 10),)):
                self.assertIs(same_stack(AB, head + ((first, long * many),), head + ((second, short * many),)), False)
                self.assertIs(same_stack(AB, head + ((first, long),), head + ((second, short),)), False)
                self.assertIs(same_stack(AB, head + ((first, long * many),), head + ((first * long, many),)), True)
            left = (((first * 3)[:agree], 1),)
            self.assertIs(same_stack(AB, left, (((second * 3)[:agree], 1),)), True)

    def test_many_blocks_and_a_long_word(self):
        word = ("a", "b") * 20000
        many = ((("a", "b"), 1),) * 20000
        self.assertIs(same_stack(AB, ((word, 1),), many), True)
        self.assertIs(same_stack(AB, many + ((("a",), 10 ** 30),), ((word, 1), (("a",), 10 ** 30))), True)
        self.assertIs(same_stack(AB, many[1:] + ((("a", "a"), 1),), ((word, 1),)), False)


class ErrorsTest(unittest.TestCase):
    def test_errors(self):
        labels = (0, ODD + (("b", "a"), ()), InvalidLabels, None)
        blocks = (1, WRONG_BLOCKS, InvalidBlocks, None)
        number = (2, (-1, True, False, None, "1", (1,), [1], {}, -10 ** 39), InvalidNumber, "value")
        check_errors(self, is_blocks, {0: AB, 1: LONG}, [labels])
        check_errors(self, is_blocks, {0: AB, 1: None}, [labels])
        check_errors(self, blocks_length, {0: AB, 1: LONG}, [labels, blocks])
        check_errors(self, label_at, {0: AB, 1: LONG, 2: 3}, [labels, blocks, number])
        check_errors(self, dropped, {0: AB, 1: LONG, 2: 3}, [labels, blocks, number])
        check_errors(self, same_stack, {0: AB, 1: LONG, 2: FAR},
                     [labels, blocks, (2, WRONG_BLOCKS, InvalidBlocks, None)])
        check_errors(self, spelled, {0: AB, 1: LONG[1:]}, [labels, blocks, (1, (LONG,), TooLarge, None)])
