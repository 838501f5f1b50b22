"""Checks of the simple values that others are built from."""

MAX_LETTERS = 8


def is_whole(value):
    """Returns whether the value is an integer; True and False are none."""
    return type(value) == int


def is_whole_within(value, low, high):
    """Returns whether the value is an integer from low to high."""
    return type(value) == int and low <= value <= high


def is_name(value):
    """Returns whether the value is a name."""
    return are_names((value,), True)


def is_tuple_of(value, length):
    """Returns whether the value is a tuple with this many parts."""
    return isinstance(value, tuple) and len(value) == length


def are_names(value, ascending):
    """Returns whether the value is a tuple of names: ascending, or in any order."""
    if not isinstance(value, tuple):
        return False
    last = ""
    for name in value:
        if not isinstance(name, str) or not 1 <= len(name) <= MAX_LETTERS:
            return False
        if ascending and name <= last:
            return False
        last = name
    # The letters of all names are looked at together: this is faster.
    text = "".join(value)
    return not value or (text.isascii() and text.isalpha() and text.islower())


def is_ascending(values):
    """Returns whether the values, a list or a tuple of what has an order, ascend strictly."""
    for at in range(1, len(values)):
        if values[at] <= values[at - 1]:
            return False
    return True


def has_boolean(parts):
    """Returns whether one of the parts is True or False. These equal 1 and 0, but are no integers."""
    for part in parts:
        if isinstance(part, bool):
            return True
    return False
