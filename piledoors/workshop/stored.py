"""Modules as a workshop stores them: with the summaries of all their heads."""

from piledoors.linking.link import linked_target
from piledoors.modules.modules import EMPTY, rule_for, rules_around
from piledoors.summaries.endings import NO_END, Endings, head_table
from piledoors.summaries.rows import place_in_row, rows_of
from piledoors.summaries.summaries import needed_heads


class Stored:
    """A module with its summaries. It is never changed: where an edit changes a module, another one takes its place.

    `outline` is the module without its rules, `rules` has a tuple of the rules of each state, and `rows` has the row of
    each state: what an edit does not concern is shared. `definition` and `ways` are None for an own module. For a
    link, they are its two names, its wires and its kept entries, and the states to which its wires lead.
    """

    def __init__(self, outline, rules, rows, definition, ways):
        self.outline = outline
        self.rules = rules
        self.rows = rows
        self.definition = definition
        self.ways = ways

    def module(self):
        """Returns the module."""
        return self.outline + (tuple([rule for rules in self.rules for rule in rules]),)

    def tops(self):
        """Returns all tops, in the order of a row."""
        return (EMPTY,) + self.outline[0]

    def rule(self, state, top):
        """Returns the target and the push of the rule with this head, or None."""
        return rule_for(self.rules[state], state, top)

    def summary(self, head):
        """Returns the summary of the head."""
        return self.rows[head[0]][place_in_row(self.outline[0], head[1])]

    def ending(self, head):
        """Returns the same: what is stored is worked out."""
        return self.summary(head)

    def changed(self, changes):
        """Returns what takes the place of this module by some changes, and how many summaries are worked out for it.

        The changes are a dict from heads to the new target and push, or to None.
        """
        tops = self.tops()
        table = {(state, top): told for state, row in enumerate(self.rows) for top, told in zip(tops, row)}
        visitors = self.visitors(Endings(table), changes)
        states = {state: True for state, top in visitors}
        rules = list(self.rules)
        for head, told in changes.items():
            rules[head[0]] = rules_with(rules[head[0]], head, told)
        # The summaries of all other heads stay in the table.
        for head in visitors:
            table.pop(head)
        for state in states:
            told = head_table(rules[state])
            table.update({head: told[head] for head in told if head in visitors})
        found = Endings(table).summaries()
        rows = list(self.rows)
        for state in states:
            rows[state] = tuple([found.get((state, top), NO_END) for top in tops])
        return Stored(self.outline, tuple(rules), tuple(rows), self.definition, self.ways), len(visitors)

    def visitors(self, endings, heads):
        """Returns a dict of the heads that have one of these heads among their visited heads, by all endings."""
        rules = {(state, top): (target, push) for part in self.rules for state, top, target, push in part}
        users = {}
        for head in rules:
            for needed in needed_heads(rules, endings, head):
                users.setdefault(needed, []).append(head)
        found = {head: True for head in heads}
        waiting = list(found)
        while waiting:
            needed = waiting.pop()
            for head in users.get(needed, []):
                if head not in found:
                    found[head] = True
                    waiting.append(head)
        return found


def stored_module(module, definition, ways):
    """Returns what stores a module, whose summaries are worked out for it."""
    rules = [[] for state in range(module[1])]
    for rule in module[4]:
        rules[rule[0]].append(rule)
    rows = tuple([tuple(row) for row in rows_of(module, True)])
    return Stored(module[:4], tuple([tuple(part) for part in rules]), rows, definition, ways)


def rules_with(rules, head, told):
    """Returns the rules of a state with this target and push for the head, or without a rule for it if this is None."""
    before, behind = rules_around(rules, head)
    return before + (() if told is None else (head + told,)) + behind


def changes_in_link(link, size, changes):
    """Returns what changes in a link by the changes in its parts, the first of which has this size.

    The changes are a dict from names to the changes in these modules.
    """
    found = {}
    for side, name in enumerate(link.definition[:2]):
        first_state = size * side
        for (state, top), told in changes.get(name, {}).items():
            if told is not None:
                told = (linked_target(link.ways, side, first_state, told[0]), told[1])
            found[(first_state + state, top)] = told
    return found
