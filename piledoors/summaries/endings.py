"""How the run from a head ends, worked out on demand and without a single step of the run."""

from piledoors.modules.modules import EMPTY

POP = "pop"
EXIT = "exit"
NEVER = "never"
RULE = "rule"
NO_END = ("never",)
BEGUN = ("begun",)


def head_table(rules, ticks=1):
    """Returns a dict from each head that has a rule to what is known of it. Each step takes these ticks."""
    return {(state, top): known_at_once(top, target, push, ticks) for state, top, target, push in rules}


def known_at_once(top, target, push, ticks):
    """Returns the ending of a head with this top and this rule, if no other head matters for it, or else the rule."""
    if isinstance(target, str):
        return (EXIT, target, push, ticks)
    if push or top == EMPTY:
        return (RULE, target, push, ticks)
    return (POP, target, ticks)


class Endings:
    """The endings of heads. They take the places of the rules in a head table, once they are worked out.

    An ending is a summary, but for some exits: `(EXIT, exit, rest, ticks, inner)` has the word of the head
    `inner`, followed by `rest`. The words of a chain of heads contain one another, so they are put together
    only where they are asked for.
    """

    def __init__(self, table):
        self.known = table

    def ending(self, head):
        """Returns the ending of the head."""
        told = self.known.get(head, NO_END)
        if told[0] == RULE:
            self.work_out(head)
            return self.known[head]
        return told

    def work_out(self, head):
        """Finds the endings of a head that has a rule and of those that it needs.

        The heads that wait for another one stand in a list, because a chain of them can be too long
        for calls within calls.
        """
        known = self.known
        visits = []
        head, state, labels, at, ticks = self.begin(head)
        while True:
            if at < len(labels):
                needed = (state, labels[at])
                ending = known.get(needed, NO_END)
                if ending[0] == POP:
                    state = ending[1]
                    ticks = ticks + ending[2]
                    at = at + 1
                    continue
                if ending[0] == RULE:
                    visits.append((head, state, labels, at, ticks))
                    head, state, labels, at, ticks = self.begin(needed)
                    continue
                # A head that is begun, but not known, waits for this one: it needs itself.
                rest = labels[at + 1:] if head[1] != EMPTY else labels[at + 1:-1]
                known[head] = outer_ending(ticks, needed, ending, rest)
            else:
                known[head] = (POP, state, ticks)
            if not visits:
                return
            head, state, labels, at, ticks = visits.pop()

    def begin(self, head):
        """Returns the visit of a head: the head, the state, the labels to take, how many are taken, and the ticks."""
        _, target, push, ticks = self.known[head]
        self.known[head] = BEGUN
        # The run from an empty stack goes on when all labels are taken, as if the empty top were one more.
        return (head, target, push if head[1] != EMPTY else push + (EMPTY,), 0, ticks)

    def summary(self, head):
        """Returns the summary of the head."""
        ending = self.ending(head)
        if len(ending) > 4:
            return (EXIT, ending[1], self.word(head), ending[3])
        return ending

    def word(self, head):
        """Returns the word of a head that is known to have an exit."""
        rests = []
        while head is not None:
            ending = self.known[head]
            rests.append(ending[2])
            head = ending[4] if len(ending) > 4 else None
        rests.reverse()
        return tuple([label for rest in rests for label in rest])

    def summaries(self):
        """Returns a dict from each head that has a rule to its summary."""
        known = self.known
        heads = [head for head, ending in known.items() if ending[0] == RULE]
        for head in heads:
            if known[head][0] == RULE:
                self.work_out(head)
        for head in heads:
            if len(known[head]) > 4:
                self.put_together(head)
        return known

    def put_together(self, head):
        """Turns the ending of a head, and of those whose words it contains, into summaries."""
        known = self.known
        heads = []
        while len(known[head]) > 4:
            heads.append(head)
            head = known[head][4]
        for outer in reversed(heads):
            _, door, rest, ticks, inner = known[outer]
            known[outer] = (EXIT, door, known[inner][2] + rest, ticks)


def outer_ending(ticks, inner, ending, rest):
    """Returns the ending of a head that comes, after these ticks, to an inner head whose ending is no pop."""
    if ending[0] != EXIT:
        return NO_END
    if rest:
        return (EXIT, ending[1], rest, ticks + ending[3], inner)
    return ending[:3] + (ticks + ending[3],) + ending[4:]
