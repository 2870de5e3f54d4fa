"""The form of sources and states, and who is current or living in them."""

from swappedhot.plain import is_index, is_name, is_tuple


def is_sources(graph, value):
    """Tell whether a value (any value) is sources of the graph."""
    if not is_tuple(value, len(graph), len(graph)):
        return False
    limits = [len(editions) for _, editions in graph.modules]
    return all([is_index(number, limit) for number, limit in zip(value, limits)])


def is_state(graph, value):
    """Tell whether a value (any value) is a state of the graph."""
    if not is_tuple(value, 4, 4):
        return False
    sources, instances, current, listeners = value
    if not is_sources(graph, sources) or not is_tuple(instances, 0, graph.most):
        return False
    many = len(instances)
    if not all([is_instance(graph, instance, many) for instance in instances]):
        return False
    if not is_current(graph, current, instances) or not is_tuple(listeners, 0, graph.most):
        return False
    if not all([is_listener(graph, listener, many) for listener in listeners]):
        return False
    return all_live(instances, current, listeners)


def is_instance(graph, value, many):
    """Tell whether a value is an instance in a state with this many instances."""
    if not is_tuple(value, 5, 5):
        return False
    module, edition, word, holds, entries = value
    if module not in graph.names or not is_index(edition, len(graph.editions(module))):
        return False
    if not fits_cell(graph, module, edition, word) or not are_holds(holds, many):
        return False
    return is_tuple(entries, 0, graph.most) and all([is_index(entry, many) for entry in entries])


def fits_cell(graph, module, edition, word):
    """Tell whether an instance of this edition may have this word (or None) in its cell."""
    body = graph.editions(module)[edition][1]
    if any([row[0] == "cell" for row in body]):
        return word in graph.words
    return word is None


def are_holds(value, many):
    if not isinstance(value, tuple) or not all([is_tuple(pair, 2, 2) for pair in value]):
        return False
    slots = [slot for slot, _ in value]
    if not all([is_name(slot) for slot in slots]) or len(set(slots)) != len(slots):
        return False
    return all([index is None or is_index(index, many) for _, index in value])


def is_current(graph, value, instances):
    if not is_tuple(value, len(graph), len(graph)):
        return False
    for name, index in zip(graph.names, value):
        if index is None:
            continue
        if not is_index(index, len(instances)) or instances[index][0] != name:
            return False
    return True


def is_listener(graph, value, many):
    if not is_tuple(value, 4, 4):
        return False
    owner, event, kind, listened = value
    if not is_index(owner, many) or event not in graph.events:
        return False
    if kind == "listen":
        return listened in graph.names
    return kind == "listenheld" and is_name(listened)


def current_instances(graph, state):
    """Return a dict of the current instances by module; a module without one is left out."""
    _, instances, current, _ = state
    return {name: instances[index] for name, index in zip(graph.names, current) if index is not None}


def all_live(instances, current, listeners):
    """Tell whether every instance of a state of the right form is living."""
    roots = list(current) + [listener[0] for listener in listeners]
    links = [links_of(instance) for instance in instances]
    return len(reached(roots, links)) == len(instances)


def links_of(instance):
    """Return the indexes in the slots and the entries of an instance, None among them."""
    _, _, _, holds, entries = instance
    return [index for _, index in holds] + list(entries)


def reached(roots, links):
    """Return the living ones among the instances that have been born.

    They are named by numbers, in the order of their births; None names nobody.
    roots are the numbers that a program refers to by itself, links[k] those
    that instance k refers to. The answer is in ascending order.
    """
    seen = {}
    waiting = list(roots)
    while waiting:
        number = waiting.pop()
        if number is not None and number not in seen:
            seen[number] = True
            waiting.extend(links[number])
    return sorted(seen)
