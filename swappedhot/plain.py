"""Questions about plain values, and copies of them."""

LETTERS = "abcdefghijklmnopqrstuvwxyz"


def is_integer(value):
    return isinstance(value, int) and not isinstance(value, bool)


def is_index(value, many):
    """Tell whether a value is an integer from 0 to below many."""
    return is_integer(value) and 0 <= value < many


def is_name(value):
    if not isinstance(value, str) or not 1 <= len(value) <= 8:
        return False
    return all([letter in LETTERS for letter in value])


def is_tuple(value, fewest, most):
    """Tell whether a value is a tuple with at least fewest and at most most items."""
    return isinstance(value, tuple) and fewest <= len(value) <= most


def position(items, wanted):
    """Return the number of the first one of the items that equals a value; there is such an item."""
    # Not items.index(..): operators lead here, they may call nothing that an object holds, and errors hold an index.
    return [number for number, item in enumerate(items) if item == wanted][0]


def replaced(items, index, item):
    """Return a tuple in which one item has been replaced."""
    return items[:index] + (item,) + items[index + 1:]


def copied(value):
    """Return an equal value that shares no list and no dict with this one."""
    if isinstance(value, list):
        return [copied(item) for item in value]
    if isinstance(value, tuple):
        return tuple([copied(item) for item in value])
    if isinstance(value, dict):
        return {key: copied(value[key]) for key in value}
    return value
