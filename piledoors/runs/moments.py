"""The moments of runs, however many ticks away, and their fates."""

from piledoors.errors import InvalidNumber
from piledoors.modules.modules import EMPTY, is_top, is_word, require_module, require_stack, rule_table, start_of
from piledoors.results.results import laid_bare, result_behind
from piledoors.summaries.endings import NEVER, POP, Endings, head_table
from piledoors.values import has_boolean, is_tuple_of, is_whole, is_whole_within

MAX_TICK = 10 ** 30
ENDLESS = "endless"


def moment(module, entry, stack, tick):
    """Returns where the run is after this many steps, or after its last one."""
    require_module(module)
    state = start_of(module, entry)
    require_stack(module, stack)
    if not is_whole_within(tick, 0, MAX_TICK):
        raise InvalidNumber(tick)
    run = Run(module, state, stack)
    found = run.result()
    if found is not None and found[2] <= tick:
        return ("out",) + found
    place = run.place_at(tick)
    if place.head in run.rules:
        return ("in", place.head[0], place.as_blocks())
    return ("stuck", place.head[0], place.as_blocks(), place.ticks)


def fate(module, entry, stack):
    """Returns the paper of the fate of the run."""
    require_module(module)
    state = start_of(module, entry)
    require_stack(module, stack)
    return fate_of(Run(module, state, stack))


def is_fate(module, entry, stack, value):
    """Returns whether the value is a paper of the fate of the run."""
    require_module(module)
    state = start_of(module, entry)
    require_stack(module, stack)
    run = Run(module, state, stack)
    told = fate_of(run)
    if told[0] != ENDLESS:
        return value == told and not has_boolean(value)
    return is_tuple_of(value, 7) and value[0] == ENDLESS and is_endless(module, run, value)


class Run:
    """A run from a state on a stack, of which any place is found without walking there."""

    def __init__(self, module, state, stack):
        self.rules = rule_table(module)
        self.endings = Endings(head_table(module[4]))
        self.stack = stack
        self.bare = laid_bare(self.endings, state, stack)

    def result(self):
        """Returns the result of the run, or None."""
        return result_behind(self.endings, self.stack, self.bare[-1])

    def place_behind(self, bare):
        """Returns the place where a depth is laid bare."""
        depth, state, ticks = bare
        top = self.stack[depth] if depth < len(self.stack) else EMPTY
        return Place((state, top), ticks, self.stack[depth + 1:])

    def place_at(self, tick):
        """Returns the place at this tick, or where the run is stuck before. Control has not left by then."""
        place = self.place_behind([bare for bare in self.bare if bare[2] <= tick][-1])
        seen = {}
        while place.ticks < tick and place.head in self.rules:
            if place.head in seen:
                place.jump(seen[place.head], tick)
                seen = {}
            else:
                seen[place.head] = (place.ticks, len(place.below))
                place.go_deeper(self.rules, self.endings, tick)
        return place

    def is_at(self, tick, state, stack):
        """Returns whether the run, which is endless, is in this state with this stack at this tick."""
        place = self.place_at(tick)
        top = stack[0] if stack else EMPTY
        return place.head == (state, top) and place.has_below(stack[1:])


class Place:
    """A place in a run: the head, the ticks until then, and the stack below the top.

    This stack is kept as a list of pairs (word, times), the lowest one first.
    """

    def __init__(self, head, ticks, rest):
        self.head = head
        self.ticks = ticks
        self.below = [(rest, 1)] if rest else []

    def go_deeper(self, rules, endings, tick):
        """Applies the rule of the head, and goes on behind those labels of its push that are gone at the tick.

        If the tick is None, all labels that will be gone at some time are.
        """
        state, push = rules[self.head]
        self.ticks = self.ticks + 1
        for at, label in enumerate(push):
            ending = endings.ending((state, label))
            if ending[0] != POP or (tick is not None and self.ticks + ending[2] > tick):
                self.head = (state, label)
                self.put_below(push[at + 1:], 1)
                return
            state = ending[1]
            self.ticks = self.ticks + ending[2]
        self.head = (state, EMPTY)

    def put_below(self, word, times):
        """Puts a word, so many times, between the top and the stack below it."""
        if word and times > 0:
            self.below.append((word, times))

    def jump(self, seen, tick):
        """Repeats a round as often as the tick allows. It began with the same head, at the ticks and height `seen`."""
        ticks, height = seen
        period = self.ticks - ticks
        times = (tick - self.ticks) // period
        self.put_below(spelled_out(self.below[height:]), times)
        self.ticks = self.ticks + times * period

    def has_below(self, word):
        """Returns whether the stack below the top is this word."""
        length = sum([len(part) * times for part, times in self.below])
        return length == len(word) and spelled_out(self.below) == word

    def as_blocks(self):
        """Returns blocks for the whole stack."""
        blocks = []
        labels = [self.head[1]] if self.head[1] != EMPTY else []
        for part, times in reversed(self.below):
            if times == 1:
                labels.extend(part)
                continue
            if labels:
                blocks.append((tuple(labels), 1))
                labels = []
            blocks.append((part, times))
        if labels:
            blocks.append((tuple(labels), 1))
        return tuple(blocks)


def spelled_out(below):
    """Returns the word that the pairs of a place, the lowest one first, spell."""
    labels = []
    for part, times in reversed(below):
        labels.extend(part * times)
    return tuple(labels)


def fate_of(run):
    """Returns the paper of the fate."""
    found = run.result()
    if found is not None:
        return ("leaves",) + found
    place = run.place_behind(run.bare[-1])
    seen = {}
    while place.head in run.rules and place.head not in seen:
        seen[place.head] = (place.ticks, len(place.below))
        place.go_deeper(run.rules, run.endings, None)
    state, top = place.head
    if place.head not in run.rules:
        return ("stuck", state, ((top,) if top != EMPTY else ()) + spelled_out(place.below), place.ticks)
    ticks, height = seen[place.head]
    growth = spelled_out(place.below[height:])
    return (ENDLESS, ticks, place.ticks - ticks, state, top, growth, spelled_out(place.below[:height]))


def is_endless(module, run, value):
    """Returns whether this tuple of seven parts is a paper of the run, which is endless."""
    _, start, period, state, top, growth, rest = value
    if not (is_whole(start) and start >= 0 and is_whole(period) and period >= 1 and is_whole(state)):
        return False
    if not (is_top(module[0], top) and is_word(module[0], growth) and is_word(module[0], rest)):
        return False
    if top == EMPTY:
        if growth or rest:
            return False
        return run.is_at(start, state, ()) and run.is_at(start + period, state, ())
    # If the label is gone at some time, the stack is no longer than the rest then. Otherwise each round repeats
    # what the first one does.
    if not (run.is_at(start, state, (top,) + rest) and run.is_at(start + period, state, (top,) + growth + rest)):
        return False
    return run.endings.ending((state, top))[0] == NEVER
