"""Least modules: those with the fewest states that have a given interface without clock."""

from piledoors.errors import InvalidInterface, TooLarge
from piledoors.interfaces.canonical import CLASS
from piledoors.interfaces.interfaces import interface_of, is_interface
from piledoors.modules.modules import EMPTY, MAX_PUSH, MAX_STATES, require_module
from piledoors.summaries.endings import EXIT, NEVER


def state_count(interface):
    """Returns the number of states of the least module."""
    require_without_clock(interface)
    return count_of(len(interface[4]), settled_outcomes(interface[3]))


def least_module(interface):
    """Returns the least module of the interface."""
    require_without_clock(interface)
    return realized(interface)


def least_form(module):
    """Returns the least module of the interface of the module."""
    require_module(module)
    return realized(interface_of(module, False))


# What follows is for the package.


def require_without_clock(interface):
    """Raises an error if this is not an interface without clock."""
    if not (is_interface(interface) and interface[2] is False):
        raise InvalidInterface("not an interface without clock")


def count_of(classes, claims):
    """Returns the number of states for so many classes and these settled outcomes."""
    return max(1, classes + len(claims))


def settled_outcomes(entries):
    """Returns a dict from each settled outcome of the entries to its number, in their order."""
    claims = {}
    for _, outcome in entries:
        if outcome[0] != CLASS and outcome not in claims:
            claims[outcome] = len(claims)
    return claims


def realized(interface):
    """Returns the least module of an interface without clock."""
    labels, exits, _, entries, classes = interface
    claims = settled_outcomes(entries)
    rows = list(classes) + [row_of_claim(labels, claim) for claim in claims]
    rules = []
    for state, row in enumerate(rows):
        rules.extend(rules_of_row(labels, state, row))
    if max([len(push) for _, _, _, push in rules], default=0) > MAX_PUSH:
        raise TooLarge(MAX_PUSH)
    size = count_of(len(classes), claims)
    if size > MAX_STATES:
        raise TooLarge(MAX_STATES)
    starts = [(name, told[1] if told[0] == CLASS else len(classes) + claims[told]) for name, told in entries]
    return (labels, size, tuple(starts), exits, tuple(rules))


def row_of_claim(labels, claim):
    """Returns the row of a state that is settled by this outcome."""
    if claim[0] == NEVER:
        return [claim] * (1 + len(labels))
    return [claim] + [claim[:2] + (claim[2] + (label,), 0) for label in labels]


def rules_of_row(labels, state, row):
    """Returns the rules of a state, in ascending order, that do what the row says."""
    rules = []
    for top, outcome in zip((EMPTY,) + labels, row):
        if outcome[0] == EXIT:
            rules.append((state, top, outcome[1], outcome[2]))
        elif outcome[0] == CLASS:
            rules.append((state, top, outcome[1], ()))
    return rules
