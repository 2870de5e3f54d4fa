"""How far a change of a module climbs to the modules that import it."""

from swappedhot.errors import NoModule
from swappedhot.states import current_instances


def importers(graph, state, module):
    """Return the names of the modules whose current instance imports a module."""
    check_module(graph, module)
    return tuple(importing(current_editions(graph, state), module))


def climb(graph, state, module):
    """Return the tuple (outdated, own, accepting, past) of a change of a module."""
    check_module(graph, module)
    editions = current_editions(graph, state)
    outdated = [module] if module in editions else []
    own, accepting, past = [], [], []
    taken = 0
    while taken < len(outdated):
        name = outdated[taken]
        taken += 1
        above = importing(editions, name)
        if accepts(editions[name], "self"):
            own.append(name)
        elif name == graph.top or not above:
            past.append(name)
        else:
            for other in above:
                if accepts(editions[other], name):
                    accepting.append((other, name))
                elif other not in outdated:
                    outdated.append(other)
    return (tuple(outdated), tuple(own), tuple(accepting), tuple(past))


def check_module(graph, module):
    if module not in graph:
        raise NoModule(module)


def current_editions(graph, state):
    """Return a dict of the editions of the current instances, in the order of the graph."""
    current = current_instances(graph, state)
    return {name: graph.editions(name)[current[name][1]] for name in current}


def importing(editions, module):
    return [name for name in editions if module in editions[name][0]]


def accepts(edition, what):
    """Tell whether an edition accepts an import, or its own replacement ("self", which names no module)."""
    return what in [item[0] for item in edition[2]]
