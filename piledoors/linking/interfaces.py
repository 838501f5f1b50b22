"""Interfaces of linked parts, from the interfaces of the parts alone."""

from piledoors.errors import InvalidInterface
from piledoors.interfaces.canonical import canonical_interface
from piledoors.interfaces.interfaces import as_summary, is_interface, require_interface, rows_of_classes
from piledoors.linking.wiring import (doors_of, entries_left, exits_left, new_names, renamed, require_distinct,
                                      require_few, require_names, require_own_wires, require_wires, with_side)
from piledoors.modules.modules import EMPTY
from piledoors.summaries.endings import EXIT, NEVER, NO_END, Endings, known_at_once


def link_interfaces(first, second, wires, *, kept=()):
    """Returns the interface of the linked parts."""
    require_interface(first)
    if not (is_interface(second) and second[0] == first[0] and second[2] == first[2]):
        raise InvalidInterface("not an interface, or with other labels or another clock than the first one")
    doors = [doors_of(first[3], first[1]), doors_of(second[3], second[1])]
    require_wires(doors, wires, kept)
    entries = entries_left(doors, wires, kept)
    require_distinct([name for name, side in entries])
    require_few(entries, exits_left(doors, wires))
    return linked_interface([first, second], wires, kept)


def link_self_interface(interface, wires, *, kept=()):
    """Returns the interface linked with itself."""
    require_interface(interface)
    require_own_wires(doors_of(interface[3], interface[1]), wires, kept)
    wires, kept = with_side(wires, kept)
    return linked_interface([interface], wires, kept)


def rename_interface(interface, *, entries=(), exits=()):
    """Returns the interface with other names of entries and exits."""
    require_interface(interface)
    labels, doors, clock, starts, classes = interface
    require_names(doors_of(starts, doors), entries, exits)
    names = renamed([name for name, outcome in starts], entries)
    table = new_names(exits)
    begun = sorted([(name, with_new_exit(as_summary(start[1]), table)) for name, start in zip(names, starts)])
    rows = [[with_new_exit(summary, table) for summary in row] for row in rows_of_classes(classes)]
    left = {name: True for name in renamed(doors, exits)}
    return canonical_interface(labels, tuple(sorted(left)), clock, begun, rows)


# What follows is for the package.


def with_new_exit(summary, table):
    """Returns a summary with another name of its exit, if the table has one."""
    if summary[0] != EXIT:
        return summary
    return (EXIT, table.get(summary[1], summary[1])) + summary[2:]


def linked_interface(parts, wires, kept):
    """Returns the interface of linked parts. Their classes are states, one behind the other."""
    labels, _, clock, _, _ = parts[0]
    joint = Joint(parts, wires)
    size = sum([len(part[4]) for part in parts])
    names = []
    for name, side in entries_left([doors_of(part[3], part[1]) for part in parts], wires, kept):
        # A state of its own stands for what goes on at the entry, a run from its only head.
        joint.add_head((size + len(names), labels[0]), side, joint.starts[(side, name)])
        names.append(name)
    found = Endings(joint.table).summaries()
    entries = [(name, found.get((size + at, labels[0]), NO_END)) for at, name in enumerate(names)]
    rows = [[found.get((state, top), NO_END) for top in (EMPTY,) + labels] for state in range(size)]
    exits = exits_left([doors_of(part[3], part[1]) for part in parts], wires)
    return canonical_interface(labels, exits, clock, entries, rows)


class Joint:
    """A head table of linked parts. A class with an outcome that is wired goes on where the wires lead."""

    def __init__(self, parts, wires):
        self.ways = {door: entry for door, entry in wires}
        self.starts = {}
        self.firsts = []
        self.table = {}
        for side, part in enumerate(parts):
            self.firsts.append(sum([len(before[4]) for before in parts[:side]]))
            for name, outcome in part[3]:
                self.starts[(side, name)] = outcome
        for side, part in enumerate(parts):
            tops = (EMPTY,) + part[0]
            for state, row in enumerate(part[4]):
                for top, outcome in zip(tops, row):
                    self.add_head((self.firsts[side] + state, top), side, outcome)

    def add_head(self, head, side, outcome):
        """Adds a head at which a part does what the outcome says."""
        rule = self.rule(side, outcome)
        if rule is not None:
            target, push, ticks = rule
            self.table[head] = known_at_once(head[1], target, push, ticks)

    def rule(self, side, outcome):
        """Returns the state or the exit to which an outcome leads, the word on top, and the ticks; None if never."""
        word = ()
        ticks = 0
        passed = {}
        while outcome[0] == EXIT:
            word = outcome[2] + word
            ticks = ticks + outcome[3]
            door = (side, outcome[1])
            if door not in self.ways:
                return outcome[1], word, ticks
            if door in passed:
                return None
            passed[door] = True
            side = self.ways[door][0]
            outcome = self.starts[self.ways[door]]
        if outcome[0] == NEVER:
            return None
        return self.firsts[side] + outcome[1], word, ticks + outcome[2]
