"""Graphs: the descriptions of programs."""

from swappedhot.errors import InvalidGraph, NoModule, TooMany
from swappedhot.running import start
from swappedhot.shapes import check_parts


class Graph:
    """The modules of a program, their editions, and the words and events that they use."""

    def __init__(self, words, events, modules, top, *, most=5):
        check_parts(words, events, modules, top, most)
        self.words = words
        self.events = events
        self.modules = modules
        self.top = top
        self.most = most
        self.names = tuple([name for name, _ in modules])
        self.check_starts()

    def check_starts(self):
        """Raise InvalidGraph for the first sources whose start is refused."""
        for sources in self.all_sources():
            try:
                start(self, sources)
            except TooMany:
                raise InvalidGraph("starts", sources) from None

    def editions(self, name):
        """Return the tuple of the editions of a module."""
        for other, editions in self.modules:
            if other == name:
                return editions
        raise NoModule(name)

    def all_sources(self):
        """Return the list of all sources in ascending order."""
        found = [()]
        for _, editions in self.modules:
            found = [sources + (number,) for sources in found for number in range(len(editions))]
        return found

    def __eq__(self, other):
        return (isinstance(other, Graph) and self.words == other.words
                and self.events == other.events and self.modules == other.modules
                and self.top == other.top and self.most == other.most)

    def __len__(self):
        return len(self.names)

    def __contains__(self, x):
        return x in self.names
