"""Deeds: what is done to a running program, and the steps that come of it."""

from swappedhot.climbing import climb
from swappedhot.errors import BadDeed
from swappedhot.machine import Machine
from swappedhot.plain import is_index, is_tuple, position, replaced
from swappedhot.rules import check_rule
from swappedhot.states import current_instances


class Step:
    """What came of a deed: the state after it, its calls and its trace."""

    def __init__(self, state, calls, trace):
        self.state = state
        self.calls = calls
        self.trace = trace


def is_deed(graph, value):
    """Tell whether a value (any value) is a deed of the graph."""
    if value == ("reload",):
        return True
    if is_tuple(value, 2, 2):
        return value[0] == "fire" and value[1] in graph.events
    if not is_tuple(value, 3, 3) or value[1] not in graph:
        return False
    word, module, what = value
    if word == "edit":
        return is_index(what, len(graph.editions(module)))
    return word == "set" and what in graph.words


def are_deeds(graph, value):
    """Tell whether a value (any value) is a tuple of at least one deed of the graph."""
    if not isinstance(value, tuple) or len(value) == 0:
        return False
    return all([is_deed(graph, deed) for deed in value])


def step(graph, rule, state, deed):
    """Do a deed and return its Step."""
    check_rule(rule)
    if not is_deed(graph, deed):
        raise BadDeed(deed)
    if deed[0] == "edit":
        return edit(graph, rule, state, deed[1], deed[2])
    if deed[0] == "fire":
        return Step(state, calls_of(graph, state, deed[1]), ())
    if deed[0] == "set":
        return Step(with_word(graph, state, deed[1], deed[2]), (), ())
    return reload(graph, state[0])


def edit(graph, rule, state, module, number):
    """Make an edition the source of its module and bring it into the program."""
    place = position(graph.names, module)
    if state[0][place] == number:
        return Step(state, (), ())
    sources = replaced(state[0], place, number)
    change = climb(graph, state, module)
    outdated, _, _, past = change
    if past and rule[1] == "reload":
        return reload(graph, sources)
    if not outdated or (past and rule[1] == "stay"):
        return Step((sources,) + state[1:], (), ())
    machine = Machine(graph, sources)
    machine.resume(state)
    swap(machine, rule, change)
    return Step(machine.as_state(), (), tuple(machine.trace))


def swap(machine, rule, change):
    """Put the outdated modules away, run what has to be run again, and let others accept it."""
    outdated, own, accepting, past = change
    in_order = outdated if rule[0] == "near" else outdated[::-1]
    for name in in_order:
        machine.put_away(name, rule[2] == "kept")
    for name in outdated:
        if name in own or name in past:
            machine.run_if_none(name)
    for importer, name in accepting:
        if importer not in outdated:
            machine.run_if_none(name)
            machine.accept(importer, name)


def reload(graph, sources):
    """Start the program afresh."""
    machine = Machine(graph, sources)
    machine.trace.append(("reload",))
    machine.run(graph.top)
    return Step(machine.as_state(), (), tuple(machine.trace))


def with_word(graph, state, module, word):
    """Return the state in which the cell of a module, if there is one, has a word."""
    sources, instances, current, listeners = state
    index = current[position(graph.names, module)]
    if index is None or instances[index][2] is None:
        return state
    changed = replaced(instances[index], 2, word)
    return (sources, replaced(instances, index, changed), current, listeners)


def calls_of(graph, state, event):
    """Return the tuple of the calls that an event makes in a state."""
    _, instances, _, listeners = state
    current = current_instances(graph, state)
    calls = []
    for owner, heard, kind, listened in listeners:
        if heard == event:
            caller = instances[owner]
            called = current.get(listened) if kind == "listen" else held(instances, caller, listened)
            calls.append(caller[:2] + as_called(called))
    return tuple(calls)


def held(instances, holder, slot):
    """Return the instance that a slot of an instance holds, or None."""
    index = dict(holder[3]).get(slot)
    return None if index is None else instances[index]


def as_called(instance):
    """Return the module, the edition and the word of an instance as a call tells them."""
    if instance is None:
        return ("", -1, "")
    module, edition, word, _, _ = instance
    return (module, edition, "" if word is None else word)
