"""Searches: what deeds lead to, numbered in the order in which it is found."""

from swappedhot.errors import BadLimit, TooManyStates
from swappedhot.plain import is_integer


class Search:
    """The nodes (states, or whatever deeds lead from and to) that have been found so far.

    The ways are the shortest ones, and of several shortest ones the first ones,
    if the nodes are taken in the order of their numbers, and from each of them
    the deeds in their order: so the nodes are numbered in the order of their ways.
    """

    def __init__(self, first, limit):
        if not is_integer(limit) or limit < 1:
            raise BadLimit(limit)
        self.limit = limit
        self.nodes = [first]
        self.numbers = {first: 0}
        # For each node the number of the one that it was found from, and the deed that led to it.
        self.origins = [None]

    def number_at(self, node, origin, deed):
        """Return the number of the node that a deed leads to; a new one gets the next number."""
        if node not in self.numbers:
            if len(self.nodes) == self.limit:
                raise TooManyStates(self.limit)
            self.numbers[node] = len(self.nodes)
            self.nodes.append(node)
            self.origins.append((origin, deed))
        return self.numbers[node]

    def way_to(self, number):
        """Return the list of the deeds that lead to a node."""
        deeds = []
        while number > 0:
            number, deed = self.origins[number]
            deeds.append(deed)
        return deeds[::-1]
