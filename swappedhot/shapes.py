"""The form of the arguments of a graph.

The functions called wrong_.. return the path to the first thing that is wrong,
or None if all is well.
"""

from swappedhot.errors import InvalidGraph
from swappedhot.plain import is_index, is_name, is_tuple


def check_parts(words, events, modules, top, most):
    """Raise InvalidGraph for the first argument of a graph that is wrong in itself."""
    path = wrong_names(words, 1, 3)
    if path is not None:
        raise InvalidGraph("words", path)
    path = wrong_names(events, 0, 2)
    if path is not None:
        raise InvalidGraph("events", path)
    path = wrong_modules(modules, words, events)
    if path is not None:
        raise InvalidGraph("modules", path)
    if top not in [name for name, _ in modules]:
        raise InvalidGraph("top", ())
    if not is_index(most, 9) or most < 2:
        raise InvalidGraph("most", ())


def wrong_names(value, fewest, most):
    if not is_tuple(value, fewest, most):
        return ()
    for index, item in enumerate(value):
        if not is_name(item) or item in value[:index]:
            return (index,)
    return None


def wrong_modules(value, words, events):
    if not is_tuple(value, 1, 4):
        return ()
    for index, item in enumerate(value):
        if not is_module(item, [earlier for earlier, _ in value[:index]]):
            return (index,)
    for index, (name, editions) in enumerate(value):
        others = [other for other, _ in value if other != name]
        for number, edition in enumerate(editions):
            path = wrong_edition(edition, others, words, events)
            if path is not None:
                return (index, number) + path
    return None


def is_module(item, earlier):
    """Tell whether an item is a name, unlike the earlier ones, with a tuple of editions."""
    if not is_tuple(item, 2, 2) or not is_name(item[0]):
        return False
    return item[0] != "self" and item[0] not in earlier and is_tuple(item[1], 1, 3)


def wrong_edition(edition, others, words, events):
    if not is_tuple(edition, 4, 4) or not all([isinstance(part, tuple) for part in edition]):
        return ()
    imports, body, accepts, cleanup = edition
    # What one part tells about the next is true only if the first one is right,
    # so no part is looked at before the parts ahead of it.
    path = wrong_imports(imports, others)
    if path is not None:
        return (0,) + path
    path = wrong_body(body, imports, words, events)
    if path is not None:
        return (1,) + path
    path = wrong_accepts(accepts, imports, events)
    if path is not None:
        return (2,) + path
    path = wrong_cleanup(cleanup, imports)
    if path is not None:
        return (3,) + path
    return None


def wrong_imports(imports, others):
    for index, item in enumerate(imports):
        if item not in others or item in imports[:index]:
            return (index,)
    return None


def wrong_body(body, imports, words, events):
    if len(body) > 6:
        return ()
    has_cell = False
    for index, row in enumerate(body):
        if is_cell_row(row, words) and not has_cell:
            has_cell = True
        elif not is_linking_row(row, imports, events):
            return (index,)
    return None


def wrong_accepts(accepts, imports, events):
    for index, item in enumerate(accepts):
        if not is_accepts_item(item, imports, events):
            return (index,)
        if item[0] in [earlier[0] for earlier in accepts[:index]]:
            return (index,)
    return None


def wrong_cleanup(cleanup, imports):
    if len(cleanup) > 4:
        return ()
    for index, row in enumerate(cleanup):
        if not is_cleanup_row(row, imports):
            return (index,)
    return None


def is_cell_row(row, words):
    return is_tuple(row, 2, 2) and row[0] == "cell" and row[1] in words


def is_linking_row(row, imports, events):
    """Tell whether a value is a body row other than a cell row."""
    if is_tuple(row, 2, 2):
        return row[0] == "enter" and row[1] in imports
    if not is_tuple(row, 3, 3):
        return False
    word, first, second = row
    if word == "hold":
        return is_name(first) and second in imports
    if word == "listen":
        return first in events and second in imports
    return word == "listenheld" and first in events and is_name(second)


def is_accepts_item(item, imports, events):
    if item == ("self",):
        return True
    if not is_tuple(item, 2, 2) or item[0] not in imports or not is_tuple(item[1], 0, 3):
        return False
    return all([is_linking_row(row, imports, events) for row in item[1]])


def is_cleanup_row(row, imports):
    if is_tuple(row, 2, 2):
        return row[0] == "leave" and row[1] in imports
    return row in (("unlisten",), ("carry",))
