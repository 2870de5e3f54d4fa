"""Drawn graphs, states and deeds; the same seed draws the same ones on every machine."""

import random

from swappedhot.books import Book
from swappedhot.errors import InvalidGraph, TooMany, TooManyStates
from swappedhot.graphs import Graph
from swappedhot.rules import all_rules
from swappedhot.running import start
from swappedhot.states import is_state
from swappedhot.swapping import step

NAMES = ("top", "host", "util", "main")
WORDS = ("red", "blue", "green")
EVENTS = ("tick", "tock")
SLOTS = ("h", "k")


def some(chance, values, most):
    """A few of the values, in any order."""
    return tuple(chance.sample(list(values), chance.randint(0, min(most, len(values)))))


def row(chance, imports, events):
    forms = [("hold", chance.choice(SLOTS), chance.choice(imports)), ("enter", chance.choice(imports))]
    if events:
        forms.append(("listen", chance.choice(events), chance.choice(imports)))
        forms.append(("listenheld", chance.choice(events), chance.choice(SLOTS)))
    return chance.choice(forms)


def rows(chance, imports, events, most):
    return tuple([row(chance, imports, events) for _ in range(chance.randint(0, most))]) if imports else ()


def draw_edition(chance, name, names, words, events):
    imports = some(chance, [other for other in names if other != name], 3)
    body = list(rows(chance, imports, events, 3))
    if chance.random() < 0.6:
        body.insert(chance.randint(0, len(body)), ("cell", chance.choice(words)))
    accepts = [(other, rows(chance, imports, events, 2)) for other in imports if chance.random() < 0.5]
    if chance.random() < 0.25:
        accepts.insert(chance.randint(0, len(accepts)), ("self",))
    cleanup = some(chance, [("unlisten",), ("carry",)] + [("leave", other) for other in imports], 4)
    return (imports, tuple(body), tuple(accepts), cleanup)


def draw_graph(chance, change=lambda modules: modules):
    """A graph; change is applied to its modules before it is made."""
    while True:
        names = NAMES[:chance.choice((1, 2, 3, 3, 4, 4))]
        words, events = WORDS[:chance.randint(1, 3)], EVENTS[:chance.randint(0, 2)]
        modules = tuple([(name, tuple([draw_edition(chance, name, names, words, events)
                                       for _ in range(chance.randint(1, 3))])) for name in names])
        try:
            return Graph(words, events, change(modules), chance.choice(names), most=chance.randint(2, 8))
        except InvalidGraph as error:
            assert error.part == "starts", error


def changed(part, change):
    """A change for draw_graph: what becomes of one part (0 to 3) of each edition."""
    def of_edition(edition):
        return edition[:part] + (tuple(change(edition[part])),) + edition[part + 1:]
    return lambda modules: tuple([(name, tuple([of_edition(each) for each in editions])) for name, editions in modules])


def deeds_of(graph):
    return ([("edit", name, number) for name, editions in graph.modules for number in range(len(editions))]
            + [("fire", event) for event in graph.events]
            + [("set", name, word) for name in graph.names for word in graph.words] + [("reload",)])


def walk(chance, graph, rule, length):
    """The states on one way from a start, under one rule; most of the deeds are edits."""
    state = start(graph, chance.choice(graph.all_sources()))
    states = [state]
    deeds = deeds_of(graph)
    edits = [deed for deed in deeds if deed[0] == "edit"]
    for _ in range(length):
        try:
            state = step(graph, rule, state, chance.choice(edits if chance.random() < 0.8 else deeds)).state
        except TooMany:
            continue
        states.append(state)
    return states


def draw_state(chance, graph):
    """A state that perhaps no deed reaches."""
    many = chance.randint(0, graph.most)
    instances = [draw_instance(chance, graph, many) for _ in range(many)]
    current = [chance.choice([None] + 3 * [at for at, each in enumerate(instances) if each[0] == name])
               for name in graph.names]
    listeners = []
    if graph.events and instances:
        for _ in range(chance.randint(0, graph.most)):
            kind = chance.choice(("listen", "listenheld"))
            what = chance.choice(graph.names if kind == "listen" else SLOTS)
            listeners.append((chance.randrange(many), chance.choice(graph.events), kind, what))
    state = without_dead((chance.choice(graph.all_sources()), instances, current, listeners))
    assert is_state(graph, state), state
    return state


def draw_instance(chance, graph, many):
    module = chance.choice(graph.names)
    editions = graph.editions(module)
    number = chance.randrange(len(editions))
    has_cell = [1 for row in editions[number][1] if row[0] == "cell"]
    holds = [(slot, chance.choice([None] + list(range(many)))) for slot in some(chance, SLOTS, 2)]
    entries = [chance.randrange(many) for _ in range(chance.choice((0, 0, 0, 1, 2)))]
    return (module, number, chance.choice(graph.words) if has_cell else None, holds, entries)


def without_dead(state):
    sources, instances, current, listeners = state
    alive = {index for index in current if index is not None} | {each[0] for each in listeners}
    while True:
        more = {index for at in alive for index in [held for _, held in instances[at][3]] + instances[at][4]}
        if more - {None} <= alive:
            break
        alive |= more - {None}
    place = {index: at for at, index in enumerate(sorted(alive))}
    place[None] = None
    return (sources,
            tuple([(module, number, word, tuple([(slot, place[index]) for slot, index in holds]),
                    tuple([place[index] for index in entries]))
                   for at, (module, number, word, holds, entries) in enumerate(instances) if at in alive]),
            tuple([place[index] for index in current]),
            tuple([(place[owner], event, kind, what) for owner, event, kind, what in listeners]))


def books(seed, many, fewest=2, most=60):
    """Graphs, rules and flags whose books have so few states."""
    chance = random.Random(seed)
    found = []
    while len(found) < many:
        graph, rule, sets = draw_graph(chance), chance.choice(all_rules()), chance.random() < 0.5
        try:
            if len(Book(graph, rule, sets=sets, limit=most)) >= fewest:
                found.append((graph, rule, sets))
        except TooManyStates:
            continue
    return found
