"""Wires and new names, for modules and for interfaces alike.

Here the doors of a part, which is a module or an interface, are the pair of the names of its entries and of its exits.
Parts are numbered by their sides. Something that is linked with itself is the only part, with side 0.
"""

from piledoors.errors import InvalidWires, NameConflict, TooLarge
from piledoors.modules.modules import MAX_DOORS
from piledoors.values import is_ascending, is_name, is_tuple_of, is_whole_within

ENTRIES = 0
EXITS = 1


def doors_of(entries, exits):
    """Returns the doors of a part with these entries, which are pairs of a name and something else, and exits."""
    return (tuple([entry[0] for entry in entries]), exits)


def are_wires(doors, value):
    """Returns whether the value is wires between parts with these doors."""
    if not (isinstance(value, tuple) and all([is_wire(doors, part) for part in value])):
        return False
    # With no exit twice, the exits of ascending wires ascend.
    return is_ascending([wire[0] for wire in value])


def is_wire(doors, value):
    """Returns whether the value may stand among wires between parts with these doors."""
    return is_tuple_of(value, 2) and is_door(doors, EXITS, value[0]) and is_door(doors, ENTRIES, value[1])


def is_door(doors, kind, value):
    """Returns whether the value is a pair of a side, and of the name of an entry, or an exit, of this side."""
    if not (is_tuple_of(value, 2) and is_whole_within(value[0], 0, len(doors) - 1)):
        return False
    return value[1] in doors[value[0]][kind]


def require_wires(doors, wires, kept):
    """Raises an error if these are not wires between parts with these doors, or not entries that can be kept."""
    if not are_wires(doors, wires):
        raise InvalidWires("not wires between these two")
    reached = [entry for door, entry in wires]
    if not (isinstance(kept, tuple) and all([is_door(doors, ENTRIES, part) and part in reached for part in kept])):
        raise InvalidWires("not a tuple of entries to which wires lead")
    if not is_ascending(kept):
        raise InvalidWires("the kept entries do not ascend")


def require_own_wires(doors, wires, kept):
    """Raises an error as `require_wires` for one part and for wires and entries without sides."""
    names, exits = doors
    if not isinstance(wires, tuple):
        raise InvalidWires("not a tuple of wires")
    if not all([is_tuple_of(part, 2) and part[0] in exits and part[1] in names for part in wires]):
        raise InvalidWires("not pairs of an exit and an entry")
    if not is_ascending([wire[0] for wire in wires]):
        raise InvalidWires("the exits do not ascend")
    reached = [entry for door, entry in wires]
    if not (isinstance(kept, tuple) and all([part in reached for part in kept]) and is_ascending(kept)):
        raise InvalidWires("not an ascending tuple of entries to which wires lead")


def with_side(wires, kept):
    """Returns wires and kept entries without sides as those of the only part."""
    return tuple([((0, door), (0, entry)) for door, entry in wires]), tuple([(0, entry) for entry in kept])


def entries_left(doors, wires, kept):
    """Returns the pairs (name, side) of all entries to which no wire leads, or which are kept, in ascending order."""
    reached = [entry for door, entry in wires if entry not in kept]
    entries = [(name, side) for side, (names, exits) in enumerate(doors) for name in names]
    return sorted([(name, side) for name, side in entries if (side, name) not in reached])


def exits_left(doors, wires):
    """Returns the names of all exits that are not wired, ascending."""
    wired = [door for door, entry in wires]
    names = {name: True for side, part in enumerate(doors) for name in part[EXITS] if (side, name) not in wired}
    return tuple(sorted(names))


def require_distinct(names):
    """Raises an error with the smallest name that occurs twice."""
    names = sorted(names)
    for low, high in zip(names, names[1:]):
        if low == high:
            raise NameConflict(low)


def require_few(entries, exits):
    """Raises an error if there are more entries or exits than a module can have."""
    if len(entries) > MAX_DOORS or len(exits) > MAX_DOORS:
        raise TooLarge(MAX_DOORS)


def require_names(doors, entries, exits):
    """Raises an error if these are not new names for the doors of a part, or if two entries have one name then."""
    if not are_new_names(doors[ENTRIES], entries):
        raise InvalidWires("not new names of entries")
    if not are_new_names(doors[EXITS], exits):
        raise InvalidWires("not new names of exits")
    require_distinct(renamed(doors[ENTRIES], entries))


def are_new_names(names, value):
    """Returns whether the value is an ascending tuple of pairs (name, new name), with no name twice."""
    if not isinstance(value, tuple):
        return False
    if not all([is_tuple_of(part, 2) and part[0] in names and is_name(part[1]) for part in value]):
        return False
    return is_ascending([name for name, new in value])


def renamed(names, changes):
    """Returns the names after the changes, in their old order."""
    table = new_names(changes)
    return [table.get(name, name) for name in names]


def new_names(changes):
    """Returns a dict from each name that changes to the new one."""
    return {name: new for name, new in changes}
