"""Starts of programs."""

from swappedhot.errors import InvalidSources
from swappedhot.machine import Machine
from swappedhot.states import is_sources


def start(graph, sources):
    """Return the state of a program that has just been started."""
    if not is_sources(graph, sources):
        raise InvalidSources(sources)
    machine = Machine(graph, sources)
    machine.run(graph.top)
    return machine.as_state()


def first_state(graph):
    """Return the start of the sources that consist of zeros."""
    return start(graph, (0,) * len(graph))
