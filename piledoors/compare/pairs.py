"""Pairs of positions of two modules that read the same stack, and the ticks that the second one takes more.

A position is a state, or GONE if control has left. A label leads from a pair to the next one, with a gain.
"""

from piledoors.summaries.endings import NEVER, POP
from piledoors.summaries.rows import place_in_row, rows_of

GONE = -1
END = 0


class Pairs:
    """The steps between the pairs of two modules. `starts` is a dict from each entry to its first pair."""

    def __init__(self, first, second):
        self.labels = first[0]
        self.first = steps_of(first)
        self.second = steps_of(second)
        self.starts = {one[0]: (one[1], two[1]) for one, two in zip(first[2], second[2])}

    def step(self, pair, at):
        """Returns the next pair and the gain for the label with this place in the rows, or None if it leads nowhere.

        The place END is that of the empty top: the pair ends with the gain.
        """
        one = self.first[pair[0]][at]
        two = self.second[pair[1]][at]
        if one is None or two is None:
            return None
        return (one[0], two[0]), two[1] - one[1]

    def along(self, pair, word):
        """Returns the pair behind a word, and the sum of the gains along it, or None if it leads nowhere."""
        total = 0
        for label in word:
            step = self.step(pair, place_in_row(self.labels, label))
            if step is None:
                return None
            pair, gain = step
            total = total + gain
        return pair, total

    def difference_of(self, entry, stack):
        """Returns the difference for the entry and the stack, or None if one of the modules does not leave."""
        behind = self.along(self.starts[entry], stack)
        if behind is None:
            return None
        end = self.step(behind[0], END)
        return None if end is None else behind[1] + end[1]


class Reached:
    """The pairs that words reach from the entries, numbered in breadth-first order.

    `origins` has for each of them the number of the pair before it and the label between them; for the first pair of
    an entry these are None and the entry. `ends` has the gain with which it ends, or None, and `moves` its moves
    (gain, number of the next pair, label): for each next pair the one with the greatest gain.
    """

    def __init__(self, pairs):
        self.steps = pairs
        self.pairs = []
        self.numbers = {}
        self.origins = []
        self.ends = []
        self.moves = []
        for entry, pair in pairs.starts.items():
            self.number(pair, None, entry)
        at = 0
        while at < len(self.pairs):
            end = pairs.step(self.pairs[at], END)
            self.ends.append(None if end is None else end[1])
            self.moves.append(self.moves_from(at))
            at = at + 1

    def number(self, pair, origin, word):
        """Returns the number of a pair, which gets one if it is met for the first time."""
        if pair not in self.numbers:
            self.numbers[pair] = len(self.pairs)
            self.pairs.append(pair)
            self.origins.append((origin, word))
        return self.numbers[pair]

    def moves_from(self, at):
        """Returns the moves from the pair with this number."""
        best = {}
        for place, label in enumerate(self.steps.labels, start=1):
            step = self.steps.step(self.pairs[at], place)
            if step is not None:
                number = self.number(step[0], at, label)
                if number not in best or best[number][0] < step[1]:
                    best[number] = (step[1], number, label)
        return list(best.values())

    def ways_out(self):
        """Returns a dict from the number of each live pair to its move on a shortest way to an end.

        The move of a pair that ends is (gain, None, None).
        """
        sources = [[] for pair in self.pairs]
        for at, moves in enumerate(self.moves):
            for move in moves:
                sources[move[1]].append((at, move))
        ways = {at: (end, None, None) for at, end in enumerate(self.ends) if end is not None}
        waiting = list(ways)
        done = 0
        while done < len(waiting):
            for at, move in sources[waiting[done]]:
                if at not in ways:
                    ways[at] = move
                    waiting.append(at)
            done = done + 1
        return ways

    def way_to(self, at):
        """Returns an entry, and a word that leads from there to the pair with this number."""
        labels = []
        at, word = self.origins[at]
        while at is not None:
            labels.append(word)
            at, word = self.origins[at]
        return word, tuple(reversed(labels))


def steps_of(module):
    """Returns the next position and the ticks, or None, for each position and each top. GONE is the last position."""
    rows = rows_of(module, True)
    steps = [[step_by(summary) for summary in row] for row in rows]
    return steps + [[(GONE, 0)] * (1 + len(module[0]))]


def step_by(summary):
    """Returns the position to which a summary leads, and its ticks, or None."""
    if summary[0] == NEVER:
        return None
    return summary[1:] if summary[0] == POP else (GONE, summary[3])
