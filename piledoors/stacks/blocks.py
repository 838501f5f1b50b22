"""Long stacks, written as blocks: words that are repeated."""

from piledoors.errors import InvalidBlocks, InvalidNumber, TooLarge
from piledoors.modules.modules import EMPTY, is_word, require_labels
from piledoors.values import is_tuple_of, is_whole, is_whole_within

MAX_TIMES = 10 ** 30
MAX_SPELLED = 10000


def is_blocks(labels, value):
    """Returns whether the value is blocks over the labels."""
    require_labels(labels)
    return isinstance(value, tuple) and all([is_block(labels, part) for part in value])


def blocks_length(labels, blocks):
    """Returns the number of labels of the stack."""
    require_blocks(labels, blocks)
    return length_of(blocks)


def label_at(labels, blocks, position):
    """Returns the label at the position, counted from the top, or the empty top if there is none."""
    require_blocks(labels, blocks)
    require_number(position)
    return label_of(blocks, position)


def spelled(labels, blocks):
    """Returns the stack."""
    require_blocks(labels, blocks)
    if length_of(blocks) > MAX_SPELLED:
        raise TooLarge(MAX_SPELLED)
    stack = []
    for word, times in blocks:
        stack.extend(word * times)
    return tuple(stack)


def same_stack(labels, first, second):
    """Returns whether both blocks spell the same stack."""
    require_blocks(labels, first)
    require_blocks(labels, second)
    return length_of(first) == length_of(second) and agree(Reader(first), Reader(second))


def dropped(labels, blocks, many):
    """Returns blocks that spell the stack without its first labels, as many as this."""
    require_blocks(labels, blocks)
    require_number(many)
    return without_first(blocks, many)


class Reader:
    """A place in the stack that blocks spell, at which it is read from the top on."""

    def __init__(self, blocks):
        self.blocks = blocks
        self.block = 0
        self.done = 0

    def has_more(self):
        """Returns whether there are labels behind the place."""
        return self.block < len(self.blocks)

    def word(self):
        """Returns the word of the present block."""
        return self.blocks[self.block][0]

    def ahead(self):
        """Returns how many labels of the present block are behind the place."""
        word, times = self.blocks[self.block]
        return len(word) * times - self.done

    def peek(self, many):
        """Returns the next labels, as many as this, of the present block."""
        word = self.word()
        start = self.done % len(word)
        rest = word[start:start + many]
        whole, part = divmod(many - len(rest), len(word))
        return rest + word * whole + word[:part]

    def skip(self, many):
        """Moves on by labels of the present block, as many as this."""
        self.done = self.done + many
        if self.ahead() == 0:
            self.block = self.block + 1
            self.done = 0


def agree(first, second):
    """Returns whether two readers of stacks of the same length have the same labels before them.

    Two words that are repeated agree for ever if they agree on as many labels as both have together
    (the theorem of Fine and Wilf), so no more of them are compared.
    """
    while first.has_more():
        common = min(first.ahead(), second.ahead())
        enough = min(common, len(first.word()) + len(second.word()))
        if first.peek(enough) != second.peek(enough):
            return False
        first.skip(common)
        second.skip(common)
    return True


def is_block(labels, value):
    """Returns whether the value may stand among blocks over the labels, which are labels."""
    if not (is_tuple_of(value, 2) and is_whole_within(value[1], 1, MAX_TIMES)):
        return False
    return is_word(labels, value[0]) and len(value[0]) > 0


def length_of(blocks):
    """Returns the number of labels of the stack that the blocks spell."""
    return sum([len(word) * times for word, times in blocks])


def label_of(blocks, position):
    """Returns the label at the position, or the empty top if there is none."""
    for word, times in blocks:
        if position < len(word) * times:
            return word[position % len(word)]
        position = position - len(word) * times
    return EMPTY


def without_first(blocks, many):
    """Returns blocks that spell the stack without its first labels."""
    for at, (word, times) in enumerate(blocks):
        if many < len(word) * times:
            return rest_of_block(word, times, many) + blocks[at + 1:]
        many = many - len(word) * times
    return ()


def rest_of_block(word, times, many):
    """Returns blocks for one block without its first labels, of which it has more than these."""
    whole, part = divmod(many, len(word))
    if part == 0:
        return ((word, times - whole),)
    if times - whole == 1:
        return ((word[part:], 1),)
    return ((word[part:], 1), (word, times - whole - 1))


def require_blocks(labels, blocks):
    """Raises an error if these are not labels, or not blocks over them."""
    if not is_blocks(labels, blocks):
        raise InvalidBlocks("not blocks over the labels")


def require_number(value):
    """Raises an error if this is not an integer of at least 0."""
    if not (is_whole(value) and value >= 0):
        raise InvalidNumber(value)
