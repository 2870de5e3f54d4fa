"""Repairs: which accepts a graph needs besides its own, and which of its cleanup rows it does not need."""

from swappedhot.books import Book
from swappedhot.errors import BadChoice, NoPlace
from swappedhot.graphs import Graph
from swappedhot.judging import check_kinds
from swappedhot.plain import is_index, is_tuple, position, replaced
from swappedhot.rules import check_rule


def choices(graph):
    """Return the list of the choices: the pairs (P, P), and (P, Y) where an edition of P imports Y."""
    found = []
    for name, editions in graph.modules:
        found.append((name, name))
        for other in graph.names:
            if any([other in edition[0] for edition in editions]):
                found.append((name, other))
    return found


def with_accepts(graph, added):
    """Return the graph to which the choices of a tuple or list have been added."""
    known = choices(graph)
    for index, choice in enumerate(added):
        if choice not in known:
            raise BadChoice(index)
    modules = graph.modules
    for choice in added:
        modules = [with_choice(name, editions, choice) for name, editions in modules]
    return with_modules(graph, tuple(modules))


def with_choice(name, editions, choice):
    """Return a module of a graph to which a choice has been added."""
    importer, what = choice
    if name != importer:
        return (name, editions)
    if what == name:
        return (name, tuple([with_item(edition, ("self",)) for edition in editions]))
    return (name, tuple([with_item(edition, (what, ())) if what in edition[0] else edition for edition in editions]))


def with_item(edition, item):
    """Return an edition that accepts what the item says, by this item unless it did so before."""
    accepts = edition[2]
    if item[0] in [earlier[0] for earlier in accepts]:
        return edition
    return replaced(edition, 2, accepts + (item,))


def with_modules(graph, modules):
    return Graph(graph.words, graph.events, modules, graph.top, most=graph.most)


def least_accepts(graph, rule, kinds, chosen, *, sets=True, limit=500):
    """Return the list of all smallest sets of at most three choices that repair the graph."""
    check_rule(rule)
    check_kinds(kinds)
    check_chosen(graph, chosen)
    for size in range(4):
        repairs = []
        for added in subsets(chosen, size):
            book = Book(with_accepts(graph, added), rule, sets=sets, limit=limit)
            if not faults_of_kinds(book, kinds):
                repairs.append(added)
        if repairs:
            return repairs
    return []


def check_chosen(graph, chosen):
    if not is_tuple(chosen, 0, 6):
        raise BadChoice(-1)
    known = choices(graph)
    for index, choice in enumerate(chosen):
        if choice not in known or choice in chosen[:index]:
            raise BadChoice(index)


def subsets(items, size):
    """Return the list of the tuples of so many of the items, in ascending order of the positions."""
    found = [((), items)]
    for _ in range(size):
        found = [(taken + (rest[index],), rest[index + 1:]) for taken, rest in found for index in range(len(rest))]
    return [taken for taken, _ in found]


def faults_of_kinds(book, kinds):
    return [fault for fault in book.found() if fault[0] in kinds]


def places(graph):
    """Return the list of the places of all cleanup rows."""
    return [(name, number, index) for name, editions in graph.modules
            for number, edition in enumerate(editions) for index in range(len(edition[3]))]


def without_cleanup(graph, place):
    """Return the graph without the cleanup row at a place."""
    check_place(graph, place)
    name, number, index = place
    edition = graph.editions(name)[number]
    cleanup = edition[3]
    changed = replaced(edition, 3, cleanup[:index] + cleanup[index + 1:])
    editions = replaced(graph.editions(name), number, changed)
    return with_modules(graph, replaced(graph.modules, position(graph.names, name), (name, editions)))


def check_place(graph, value):
    """Raise NoPlace if a value (any value) is not a place of the graph."""
    if not is_tuple(value, 3, 3) or value[0] not in graph:
        raise NoPlace(value)
    name, number, index = value
    editions = graph.editions(name)
    if not is_index(number, len(editions)) or not is_index(index, len(editions[number][3])):
        raise NoPlace(value)


def needless(graph, rule, kinds, *, sets=True, limit=500):
    """Return the list of the places whose rows can be removed, each one alone, without a change of the faults."""
    check_rule(rule)
    check_kinds(kinds)
    wanted = faults_of_kinds(Book(graph, rule, sets=sets, limit=limit), kinds)
    found = []
    for place in places(graph):
        book = Book(without_cleanup(graph, place), rule, sets=sets, limit=limit)
        if faults_of_kinds(book, kinds) == wanted:
            found.append(place)
    return found
