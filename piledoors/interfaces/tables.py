"""Tables: rows of summaries, and what follows from them for each state: how it leaves, its claim, its readings."""

from piledoors.summaries.endings import EXIT, NEVER, NO_END, POP
from piledoors.summaries.rows import rows_of

STATE = "state"


def table_of(module, clock):
    """Returns the table of a module. Without clock all ticks in it are 0."""
    return Table(module[0], rows_of(module, clock))


class Table:
    """Rows of summaries of the states 0, 1, .. with what follows from them.

    `leaving` is a dict from each state that leaves to the ticks on its leaving stack, `claims` one from each settled
    state to its claim.
    """

    def __init__(self, labels, rows):
        self.labels = labels
        self.rows = rows
        self.leaving = leaving_ticks(rows)
        self.claims = settled_claims(labels, rows, self.leaving)
        self.found = {}

    def reading(self, summary):
        """Returns the reading that belongs to a summary."""
        return reading_of(summary, self.claims)

    def entry_readings(self, entries):
        """Returns the readings of entries, each of which is a pair of a name and a start state."""
        return [self.reading((POP, state, 0)) for name, state in entries]

    def readings(self, state):
        """Returns the readings of a state on all tops, in the order of its row."""
        if state not in self.found:
            self.found[state] = [self.reading(summary) for summary in self.rows[state]]
        return self.found[state]

    def is_unsettled(self, state):
        """Returns whether this integer is a state that is not settled."""
        return 0 <= state < len(self.rows) and state not in self.claims


def reading_of(summary, claims):
    """Returns the reading that belongs to a summary, where these claims are those of the settled states."""
    if summary[0] != POP:
        return summary
    _, state, ticks = summary
    if state not in claims:
        return (STATE, state, ticks)
    claim = claims[state]
    if claim[0] == NEVER:
        return claim
    return claim[:3] + (claim[3] + ticks,)


def leaving_ticks(rows):
    """Returns a dict from each state that leaves on some stack to the ticks on its leaving stack."""
    found = {state: row[0][3] for state, row in enumerate(rows) if row[0][0] == EXIT}
    if len(found) == len(rows):
        return found
    sources = sources_of(rows)
    near = [state for state, row in enumerate(rows) if EXIT in [summary[0] for summary in row]]
    near.extend([source for state in found for source in sources[state]])
    # In each round those states are found whose leaving stacks have one label more.
    while near:
        fresh = {state: ticks_of_way_out(rows[state], found) for state in near if state not in found}
        found.update(fresh)
        near = [source for state in fresh for source in sources[state]]
    return found


def sources_of(rows):
    """Returns a dict from each state to the states from which a label leads to it."""
    sources = {state: [] for state in range(len(rows))}
    for state, row in enumerate(rows):
        for summary in row:
            if summary[0] == POP:
                sources[summary[1]].append(state)
    return sources


def ticks_of_way_out(row, found):
    """Returns the ticks on the leaving stack of a state with this row.

    Its first label is the first one by which the state leaves at once, or which leads to a state that is found.
    """
    for summary in row[1:]:
        if summary[0] == EXIT:
            return summary[3]
        if summary[0] == POP and summary[1] in found:
            return summary[2] + found[summary[1]]
    return None


def settled_claims(labels, rows, leaving):
    """Returns a dict from each settled state to its claim, where all states that leave are given."""
    claims = {state: NO_END for state in range(len(rows)) if state not in leaving}
    likely = [state for state, row in enumerate(rows) if row[0][0] == EXIT]
    # A claim rests on claims with one label more, so these are decided before.
    for state in sorted(likely, key=lambda one: -len(rows[one][0][2])):
        if is_borne_out(labels, rows[state], claims):
            claims[state] = rows[state][0]
    return claims


def is_borne_out(labels, row, claims):
    """Returns whether what a row says of the empty stack holds for each label, too, with the label put back."""
    _, door, word, ticks = row[0]
    for at, label in enumerate(labels, start=1):
        if reading_of(row[at], claims) != (EXIT, door, word + (label,), ticks):
            return False
    return True
