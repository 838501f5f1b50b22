"""The search for the smallest stack on which two sides differ.

A side is what stands there behind the labels that are read: a state, an integer; the pair of an exit and the word
that it puts on whatever follows, if the side has left; or None, if it never leaves.
"""

from piledoors.summaries.endings import NEVER, POP


class Separation:
    """Looks for stacks on which two sides have different results, by the rows of both.

    A node is a tuple (first side, second side, lead), where the lead is how many ticks more the first side has
    taken. For two states, at most one lead makes their ticks equal in the end. So if they are met again with
    another lead, that one gets None, which never makes them equal: if it were the right one, the first one would be
    wrong, and would be found wrong on a smaller stack.
    """

    def __init__(self, first, second):
        self.first = first
        self.second = second
        self.leads = {}

    def node(self, first, second, lead):
        """Returns the node for two sides."""
        if first is None or second is None:
            return (first, second, 0)
        if isinstance(first, int) and isinstance(second, int):
            if self.leads.setdefault((first, second), lead) != lead:
                lead = None
        return (first, second, lead)

    def behind(self, node, at, label):
        """Returns the node behind a label, which has this place in the rows."""
        first, more = side_behind(self.first, node[0], at, label)
        second, less = side_behind(self.second, node[1], at, label)
        return self.node(first, second, None if node[2] is None else node[2] + more - less)

    def differs(self, node):
        """Returns whether the results differ if nothing follows."""
        first, more = side_at_end(self.first, node[0])
        second, less = side_at_end(self.second, node[1])
        if first is None and second is None:
            return False
        return first != second or node[2] is None or node[2] + more != less

    def is_open(self, node):
        """Returns whether the results may yet differ, if they do not differ at once."""
        return isinstance(node[0], int) or isinstance(node[1], int)


class Gap:
    """Looks for stacks on which an old side has a result that a new side does not have, by the rows of both.

    A node is a pair (old side, new side). At most one pair of an exit and a word is right for a state of the old
    side. So if the state is met again with another one, the new side gets None, as in `Separation`.
    """

    def __init__(self, old, new):
        self.old = old
        self.new = new
        self.exits = {}

    def node(self, old, new):
        """Returns the node for two sides."""
        if isinstance(old, int) and isinstance(new, tuple) and self.exits.setdefault(old, new) != new:
            return (old, None)
        return (old, new)

    def behind(self, node, at, label):
        """Returns the node behind a label, which has this place in the rows."""
        old, _ = side_behind(self.old, node[0], at, label)
        new, _ = side_behind(self.new, node[1], at, label)
        return self.node(old, new)

    def differs(self, node):
        """Returns whether the old side has a result that the new one does not have, if nothing follows."""
        old, _ = side_at_end(self.old, node[0])
        new, _ = side_at_end(self.new, node[1])
        return old is not None and old != new

    def is_open(self, node):
        """Returns whether there may yet be a gap, if there is none at once."""
        return node[0] is not None and (isinstance(node[0], int) or isinstance(node[1], int))


def smallest_stack(labels, search, starts):
    """Returns the number of a start, and the smallest stack on which the search finds a difference from there, or None.

    If several starts differ on this stack, it is the first one of them. Stacks are looked at in their order. The
    nodes that are new behind a stack form a group, in the order of the starts from which they come.
    """
    for number, node in enumerate(starts):
        if search.differs(node):
            return number, ()
    seen = {node: True for node in starts}
    groups = [(None, None, list(enumerate(starts)))]
    done = 0
    while done < len(groups):
        for at, label in enumerate(labels, start=1):
            fresh = []
            for number, node in groups[done][2]:
                behind = search.behind(node, at, label)
                if behind in seen:
                    continue
                if search.differs(behind):
                    return number, stack_of(groups, done) + (label,)
                if search.is_open(behind):
                    seen[behind] = True
                    fresh.append((number, behind))
            if fresh:
                groups.append((done, label, fresh))
        done = done + 1
    return None


def stack_of(groups, at):
    """Returns the stack behind which the nodes of a group stand. A group tells the one before and the last label."""
    labels = []
    while groups[at][0] is not None:
        labels.append(groups[at][1])
        at = groups[at][0]
    return tuple(reversed(labels))


def side_of(summary):
    """Returns the side that a summary leads to, and its ticks."""
    if summary[0] == POP:
        return summary[1], summary[2]
    if summary[0] == NEVER:
        return None, 0
    return summary[1:3], summary[3]


def side_behind(rows, side, at, label):
    """Returns the side behind a label, which has this place in the rows, and the ticks that it takes."""
    if isinstance(side, int):
        return side_of(rows[side][at])
    if side is None:
        return None, 0
    return (side[0], side[1] + (label,)), 0


def side_at_end(rows, side):
    """Returns the exit and the word, or None, if nothing follows, and the ticks until then."""
    if isinstance(side, int):
        return side_of(rows[side][0])
    return side, 0
