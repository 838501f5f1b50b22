"""Rows of summaries: for each state, those of all tops.

A row is a list. It begins with the summary of the empty top; those of the labels follow in their order.
Modules and interfaces are compared, settled and condensed on such rows.
"""

from piledoors.modules.modules import EMPTY
from piledoors.summaries.endings import NO_END, Endings, head_table


def rows_of(module, clock):
    """Returns the rows of all states of a module. Without clock all ticks in them are 0."""
    found = Endings(head_table(module[4], 1 if clock else 0)).summaries()
    tops = (EMPTY,) + module[0]
    return [[found.get((state, top), NO_END) for top in tops] for state in range(module[1])]


def place_in_row(labels, top):
    """Returns the place of the top in a row."""
    return 0 if top == EMPTY else 1 + labels.index(top)
