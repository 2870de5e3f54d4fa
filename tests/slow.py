"""A second reading of what the document says of books, counts, rules that are alike and repairs.

Like tests/second.py, on which it stands, it is slow and literal. The ways are
not found in any order: all of them are shortened until none can be shortened.
"""

from itertools import combinations, product

from tests import second


def first(graph):
    return second.fresh(graph, (0,) * len(graph.names))[0]


def deeds_of(graph, sets):
    deeds = []
    for name, editions in graph.modules:
        for number in range(len(editions)):
            deeds.append(("edit", name, number))
    for event in graph.events:
        deeds.append(("fire", event))
    if sets is True:
        for name, _ in graph.modules:
            for word in graph.words:
                deeds.append(("set", name, word))
    deeds.append(("reload",))
    return deeds


def after(graph, rule, state, deed):
    done = second.step(graph, rule, state, deed)
    return state if isinstance(done, str) else done[0]


def shows(graph, rule, state, deed):
    done = second.step(graph, rule, state, deed)
    return done if isinstance(done, str) else done[1]


def least_ways(origin, moves):
    """For each thing that can be reached, the least (length, numbers of the moves); moves gives a list of things."""
    ways, known, shortened = {origin: (0, ())}, {}, True
    while shortened:
        shortened = False
        for thing in list(ways):
            if thing not in known:
                known[thing] = moves(thing)
            length, numbers = ways[thing]
            for number, other in enumerate(known[thing]):
                way = (length + 1, numbers + (number,))
                if other not in ways or way < ways[other]:
                    ways[other] = way
                    shortened = True
    return ways


class SlowBook:
    def __init__(self, graph, rule, sets=True):
        self.graph, self.rule, self.deeds = graph, rule, deeds_of(graph, sets)
        self.ways = least_ways(first(graph), lambda state: [after(graph, rule, state, deed) for deed in self.deeds])
        self.states = sorted(self.ways, key=self.ways.get)
        self.targets = [[self.states.index(after(graph, rule, state, deed)) for deed in self.deeds]
                        for state in self.states]
        self.faults = [[second.judge(graph, rule, state, deed) for deed in self.deeds] for state in self.states]

    def edges(self):
        return [(k, d, self.targets[k][d], tuple(self.faults[k][d]))
                for k in range(len(self.states)) for d in range(len(self.deeds))]

    def named(self, numbers):
        return [self.deeds[number] for number in numbers]

    def route(self, k):
        return self.named(self.ways[self.states[k]][1])

    def found(self):
        return second.ordered(self.graph, {fault for edge in self.edges() for fault in edge[3]})

    def least_run(self, fault):
        ways = [self.ways[self.states[k]] + (d,) for k, d, _, faults in self.edges() if fault in faults]
        runs = sorted([(length + 1, numbers + (d,)) for length, numbers, d in ways])
        return self.named(runs[0][1]) if runs else None

    def count(self, kinds, length):
        """The number of runs, each of which is gone through."""
        many = 0
        for run in product(range(len(self.deeds)), repeat=length):
            k, good = 0, True
            for d in run:
                good = good and not [kind for kind, _ in self.faults[k][d] if kind in kinds]
                k = self.targets[k][d]
            many += good
        return many

    def faults_of(self, kinds):
        return {fault for fault in self.found() if fault[0] in kinds}


def alike(graph, rules, sets, most):
    """What rules_alike returns, and the number of pairs that are found before it can tell; None if there are more."""
    deeds = deeds_of(graph, sets)

    def moves(pair):
        made = [(after(graph, rules[0], pair[0], deed), after(graph, rules[1], pair[1], deed)) for deed in deeds]
        seen.update(made)
        if len(seen) > most:
            raise OverflowError
        return made

    seen = {(first(graph), first(graph))}
    try:
        ways = least_ways((first(graph), first(graph)), moves)
    except OverflowError:
        return None
    pairs = sorted(ways, key=ways.get)
    telling = [(ways[pair][0] + 1, ways[pair][1] + (d,)) for pair in pairs for d, deed in enumerate(deeds)
               if shows(graph, rules[0], pair[0], deed) != shows(graph, rules[1], pair[1], deed)]
    if not telling:
        return ("alike", tuple(pairs)), len(pairs)
    least = min(telling)
    return ("unlike", tuple([deeds[d] for d in least[1]])), len([pair for pair in pairs if ways[pair] < least])


def choices(graph):
    found = []
    for name in graph.names:
        imported = [other for edition in dict(graph.modules)[name] for other in edition[0]]
        found += [(name, name)] + [(name, other) for other in graph.names if other in imported]
    return found


def accepting(graph, added):
    """The modules of the graph with these accepts, as its values."""
    made = []
    for name, editions in graph.modules:
        changed = []
        for imports, body, accepts, cleanup in editions:
            for importer, other in added:
                if importer != name:
                    continue
                if other == name and ("self",) not in accepts:
                    accepts = accepts + (("self",),)
                if other in imports and other not in [item[0] for item in accepts]:
                    accepts = accepts + ((other, ()),)
            changed.append((imports, body, accepts, cleanup))
        made.append((name, tuple(changed)))
    return tuple(made)


def least_accepts(book_of, kinds, chosen):
    """book_of gives the slow book of the graph with added accepts."""
    for size in range(4):
        repairs = [added for added in combinations(chosen, size) if not book_of(added).faults_of(kinds)]
        if repairs:
            return repairs
    return []
