"""The results of a module on stacks that are written as blocks."""

from piledoors.errors import InvalidBlocks
from piledoors.modules.modules import require_module, start_of
from piledoors.results.results import laid_bare
from piledoors.stacks.blocks import is_blocks, label_of, without_first
from piledoors.summaries.endings import EXIT, Endings, head_table


def result_of_blocks(module, entry, blocks):
    """Returns the exit, blocks for the stack that is left and the ticks, or None if control never leaves."""
    require_module(module)
    state = start_of(module, entry)
    if not is_blocks(module[0], blocks):
        raise InvalidBlocks("not blocks over the labels of the module")
    endings = Endings(head_table(module[4]))
    depth, state, ticks = deepest(endings, state, blocks)
    told = endings.summary((state, label_of(blocks, depth)))
    if told[0] != EXIT:
        return None
    top = ((told[2], 1),) if told[2] else ()
    return told[1], top + without_first(blocks, depth + 1), ticks + told[3]


def deepest(endings, state, blocks):
    """Returns the last depth that is laid bare, its state and the ticks until then."""
    depth = 0
    ticks = 0
    for word, times in blocks:
        gone, state, more = deepest_of_block(endings, state, word, times)
        depth = depth + gone
        ticks = ticks + more
        if gone < len(word) * times:
            break
    return depth, state, ticks


def deepest_of_block(endings, state, word, times):
    """Returns the same as `deepest` for one block. It goes through the word only until a state comes back."""
    starts = [(state, 0)]
    place = {state: 0}
    while len(starts) <= times:
        state, ticks = starts[-1]
        gone, state, more = laid_bare(endings, state, word)[-1]
        if gone < len(word):
            return (len(starts) - 1) * len(word) + gone, state, ticks + more
        starts.append((state, ticks + more))
        if state in place:
            state, ticks = along_ring(starts, place[state], times)
            return len(word) * times, state, ticks
        place[state] = len(starts) - 1
    state, ticks = starts[-1]
    return len(word) * times, state, ticks


def along_ring(starts, first, times):
    """Returns state and ticks after all repetitions, where the last of the starts has the state of the first."""
    ring = len(starts) - 1 - first
    rounds, beyond = divmod(times - first, ring)
    state, ticks = starts[first + beyond]
    return state, ticks + rounds * (starts[-1][1] - starts[first][1])
