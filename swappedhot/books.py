"""Books: all states that a program can reach under a rule."""

from swappedhot.judging import check_fault, in_order, outcome, state_faults
from swappedhot.rules import check_rule
from swappedhot.running import first_state
from swappedhot.searching import Search
from swappedhot.states import is_state


def book_deeds(graph, sets):
    """Return the list of the deeds of a book."""
    deeds = [("edit", name, number) for name, editions in graph.modules for number in range(len(editions))]
    deeds += [("fire", event) for event in graph.events]
    if sets:
        deeds += [("set", name, word) for name in graph.names for word in graph.words]
    return deeds + [("reload",)]


class Book:
    """The states that a program can reach, by number, and what the deeds do in them."""

    def __init__(self, graph, rule, *, sets=True, limit=2000):
        check_rule(rule)
        self.graph = graph
        self.rule = rule
        self.sets = sets
        self.limit = limit
        self.listing = book_deeds(graph, sets)
        self.search = Search(first_state(graph), limit)
        # For each state and each deed, the number of the state after it and the faults of the deed itself.
        self.outcomes = []
        while len(self.outcomes) < len(self.search.nodes):
            self.outcomes.append(self.outcomes_from(len(self.outcomes)))
        self.judged = [state_faults(graph, state) for state in self.search.nodes]

    def outcomes_from(self, k):
        """Do all deeds in a state, and number the states that are new."""
        state = self.search.nodes[k]
        row = []
        for deed in self.listing:
            after, own = outcome(self.graph, self.rule, state, deed)
            row.append((self.search.number_at(after, k, deed), own))
        return row

    def states(self):
        """Return the list of the states by number."""
        return list(self.search.nodes)

    def number(self, state):
        """Return the number of a state (any value), or None if it is not in the book."""
        if not is_state(self.graph, state):
            return None
        return self.search.numbers.get(state)

    def deeds(self):
        """Return the list of the deeds of the book."""
        return list(self.listing)

    def target(self, k, d):
        """Return the number of the state to which a deed leads from a state."""
        return self.outcomes[k][d][0]

    def faults(self, k, d):
        """Return the list of the faults of a deed in a state."""
        target, own = self.outcomes[k][d]
        # The kinds of faults of deeds stand behind all those of states.
        return self.judged[target] + own

    def edges(self):
        """Go through all deeds in all states: (number of the state, of the deed, of the state after it, faults)."""
        for k in range(len(self.outcomes)):
            for d in range(len(self.listing)):
                yield (k, d, self.target(k, d), tuple(self.faults(k, d)))

    def route(self, k):
        """Return the first one of the shortest lists of deeds that lead to a state."""
        return self.search.way_to(k)

    def found(self):
        """Return the list of all faults that some deed in some state has."""
        seen = {}
        for _, _, _, faults in self.edges():
            for fault in faults:
                seen[fault] = True
        return in_order(self.graph, list(seen))

    def least_run(self, fault):
        """Return the first one of the shortest lists of deeds of which the last one has the fault, or None."""
        check_fault(self.graph, fault)
        # The states are numbered in the order of their routes, so the first edge ends the first one of the runs.
        for k, d, _, faults in self.edges():
            if fault in faults:
                return self.route(k) + [self.listing[d]]
        return None

    def __len__(self):
        return len(self.outcomes)

    def __contains__(self, x):
        return self.number(x) is not None
