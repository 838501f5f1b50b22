"""Checks of the simple values that others are built from."""

MAX_LETTERS = 8


def is_whole(value):
    """Returns whether the value is an integer; True and False are none."""
    return isinstance(value, int) and not isinstance(value, bool)


def is_whole_within(value, low, high):
    """Returns whether the value is an integer from low to high."""
    return is_whole(value) and low <= value <= high


def is_name(value):
    """Returns whether the value is a name."""
    if not (isinstance(value, str) and 1 <= len(value) <= MAX_LETTERS):
        return False
    return all(["a" <= letter <= "z" for letter in value])


def is_tuple_of(value, length):
    """Returns whether the value is a tuple with this many parts."""
    return isinstance(value, tuple) and len(value) == length


def is_tuple_of_names(value):
    """Returns whether the value is a tuple of names, in any order."""
    return isinstance(value, tuple) and all([is_name(part) for part in value])


def is_ascending(values):
    """Returns whether the values, which have an order, ascend strictly."""
    return all([low < high for low, high in zip(values, values[1:])])
