"""How the run from a head ends, worked out on demand and without a single step of the run."""

from piledoors.modules.modules import EMPTY, rule_table

POP = "pop"
EXIT = "exit"
NEVER = "never"


class Ending:
    """The end of the run from a head.

    `goal` is the state after a pop, or the exit. The word of an exit is that of the head `inner`,
    if there is one, followed by `rest`: the words of a chain of heads contain one another, so they
    are put together only where they are asked for.
    """

    def __init__(self, kind, goal=None, ticks=0, rest=(), inner=None):
        self.kind = kind
        self.goal = goal
        self.ticks = ticks
        self.rest = rest
        self.inner = inner


class Visit:
    """A head whose rule has been applied, and what is taken so far of its push."""

    def __init__(self, head, target, push):
        self.head = head
        self.state = target
        self.push = push
        self.taken = 0
        self.ticks = 1

    def needed(self):
        """Returns the head to which the run comes next, or None if the label of this one is gone."""
        if self.taken < len(self.push):
            return (self.state, self.push[self.taken])
        if self.head[1] == EMPTY:
            return (self.state, EMPTY)
        return None

    def take(self, ending):
        """Goes on behind the pop of the label that is next."""
        self.state = ending.goal
        self.ticks = self.ticks + ending.ticks
        self.taken = self.taken + 1

    def last(self, inner, ending):
        """Returns the ending of this head, if the one of the head needed next is no pop."""
        if ending.kind == NEVER:
            return Ending(NEVER)
        return Ending(EXIT, ending.goal, self.ticks + ending.ticks, self.push[self.taken + 1:], inner)


class Endings:
    """The endings of the heads of a module. Only the heads that are asked for and their visited heads are known."""

    def __init__(self, module):
        self.rules = rule_table(module)
        self.known = {}

    def ending(self, head):
        """Returns the ending of the head."""
        if head not in self.known:
            self.work_out(head)
        return self.known[head]

    def work_out(self, head):
        """Finds the endings of a head and of those that it needs.

        The heads that wait for another one stand in a list, because a chain of them can be too long
        for calls within calls.
        """
        visits = []
        begun = {}
        self.begin(head, visits, begun)
        while visits:
            visit = visits[-1]
            needed = visit.needed()
            if needed is None:
                self.known[visit.head] = Ending(POP, visit.state, visit.ticks)
                visits.pop()
            elif needed not in self.known and needed not in begun:
                self.begin(needed, visits, begun)
            elif needed in self.known and self.known[needed].kind == POP:
                visit.take(self.known[needed])
            else:
                # A head that is begun and not yet known needs itself.
                ending = self.known.get(needed, Ending(NEVER))
                self.known[visit.head] = visit.last(needed, ending)
                visits.pop()

    def begin(self, head, visits, begun):
        """Finds the ending of a head that needs no other one, or adds a visit."""
        rule = self.rules.get(head)
        if rule is None:
            self.known[head] = Ending(NEVER)
        elif isinstance(rule[0], str):
            self.known[head] = Ending(EXIT, rule[0], 1, rule[1])
        else:
            begun[head] = True
            visits.append(Visit(head, rule[0], rule[1]))

    def word(self, head):
        """Returns the word of a head that has an exit."""
        parts = []
        while head is not None:
            ending = self.ending(head)
            parts.append(ending.rest)
            head = ending.inner
        word = []
        for part in reversed(parts):
            word.extend(part)
        return tuple(word)

    def summary(self, head):
        """Returns the summary of the head."""
        ending = self.ending(head)
        if ending.kind == POP:
            return (POP, ending.goal, ending.ticks)
        if ending.kind == EXIT:
            return (EXIT, ending.goal, self.word(head), ending.ticks)
        return (NEVER,)
