"""The one interface that tells given results."""

from piledoors.interfaces.tables import STATE, Table
from piledoors.summaries.endings import EXIT, NEVER

CLASS = "class"


def canonical_interface(labels, exits, clock, entries, rows):
    """Returns the interface of what the rows of some states say.

    The entries are pairs of a name and a summary, in ascending order of names: a pop to a state means that control
    goes on there.
    """
    table = Table(labels, rows)
    starts = [(name, reading_in_class(table, 0, table.reading(summary))) for name, summary in entries]
    reached = reached_rows(table, [reading for name, reading in starts])
    numbers = Numbers(parts_of(reached))
    doors = tuple([(name, numbers.outcome(reading)) for name, reading in starts])
    classes = []
    while len(classes) < len(numbers.states):
        row = reached[numbers.states[len(classes)]]
        classes.append(tuple([numbers.outcome(reading) for reading in row]))
    return (labels, exits, clock, doors, tuple(classes))


def reading_in_class(table, base, reading):
    """Returns a reading with its ticks counted from this base, and for a state, to those of its class."""
    if reading[0] == NEVER:
        return reading
    if reading[0] == EXIT:
        return reading[:3] + (reading[3] - base,)
    return (STATE, reading[1], reading[2] + table.leaving[reading[1]] - base)


def reached_rows(table, readings):
    """Returns a dict from each state that is reached from the readings to its row, with ticks as in its class."""
    reached = {}
    waiting = [reading[1] for reading in readings if reading[0] == STATE]
    while waiting:
        state = waiting.pop()
        if state not in reached:
            base = table.leaving[state]
            row = [reading_in_class(table, base, reading) for reading in table.readings(state)]
            reached[state] = row
            waiting.extend([reading[1] for reading in row if reading[0] == STATE])
    return reached


def parts_of(rows):
    """Returns a dict from each state to the number of its part: the states with the same results.

    States are in different parts if their rows differ; then if their rows lead to different parts, again and again.
    """
    shapes = {}
    parts = {}
    follow = {}
    for state, row in rows.items():
        shape = tuple([(STATE, reading[2]) if reading[0] == STATE else reading for reading in row])
        parts[state] = shapes.setdefault(shape, len(shapes))
        follow[state] = [reading[1] for reading in row if reading[0] == STATE]
    division = Division(parts, follow)
    division.divide()
    return division.parts


class Division:
    """States in parts, which are divided. `follow` tells to which states each one leads.

    Of what a part is divided into, the greatest keeps its number. So no state gets a new number often, and only
    where one does are those looked at again that lead to it.
    """

    def __init__(self, parts, follow):
        self.parts = parts
        self.follow = follow
        self.sources = {state: [] for state in parts}
        self.members = {}
        for state, part in parts.items():
            self.members.setdefault(part, {})[state] = True
            for behind in follow[state]:
                self.sources[behind].append(state)

    def divide(self):
        """Divides the parts until the states of each one lead to the same parts."""
        fresh = list(self.parts)
        while fresh:
            before = {source: True for state in fresh for source in self.sources[state]}
            groups = {}
            for state in before:
                shape = tuple([self.parts[behind] for behind in self.follow[state]])
                groups.setdefault(self.parts[state], {}).setdefault(shape, []).append(state)
            fresh = []
            for part, shapes in groups.items():
                fresh.extend(self.separate(part, list(shapes.values())))

    def separate(self, part, groups):
        """Divides a part into these groups and its other states. Returns the states that get a new number."""
        others = self.members[part]
        for group in groups:
            for state in group:
                others.pop(state)
        # The other states lead to no new number, so they are not like any of the groups.
        groups = sorted(groups, key=lambda group: -len(group))
        if len(groups[0]) > len(others):
            self.members[part] = {state: True for state in groups[0]}
            groups = groups[1:] + ([list(others)] if others else [])
        for group in groups:
            number = len(self.members)
            self.members[number] = {state: True for state in group}
            for state in group:
                self.parts[state] = number
        return [state for group in groups for state in group]


class Numbers:
    """The numbers of classes, in the order in which they are first met. `states` has one state for each number."""

    def __init__(self, parts):
        self.parts = parts
        self.numbers = {}
        self.states = []

    def outcome(self, reading):
        """Returns the outcome that belongs to a reading."""
        if reading[0] != STATE:
            return reading
        _, state, ticks = reading
        part = self.parts[state]
        if part not in self.numbers:
            self.numbers[part] = len(self.states)
            self.states.append(state)
        return (CLASS, self.numbers[part], ticks)
