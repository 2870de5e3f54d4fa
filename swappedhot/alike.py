"""Rules that are alike: whether two rules can be told apart, with a paper that shows it, and checks of such papers.

Two programs, one under each rule, do the same deeds; their states make a pair.
"""

from swappedhot.books import book_deeds
from swappedhot.errors import TooMany
from swappedhot.plain import is_tuple
from swappedhot.rules import check_rule
from swappedhot.running import first_state
from swappedhot.searching import Search
from swappedhot.states import is_state
from swappedhot.swapping import are_deeds, step


def rules_alike(graph, first, second, *, sets=True, limit=2000):
    """Return ("alike", pairs) if no run tells the rules apart, otherwise ("unlike", deeds)."""
    check_rules(first, second)
    search = Search(first_pair(graph), limit)
    deeds = book_deeds(graph, sets)
    taken = 0
    while taken < len(search.nodes):
        for deed in deeds:
            after = pair_after(graph, first, second, search.nodes[taken], deed)
            if after is None:
                return ("unlike", tuple(search.way_to(taken) + [deed]))
            search.number_at(after, taken, deed)
        taken += 1
    return ("alike", tuple(search.nodes))


def check_alike(graph, first, second, pairs, *, sets=True):
    """Tell whether a value (any value) is a tuple of pairs that no run leaves and in which no deed tells apart."""
    check_rules(first, second)
    if not isinstance(pairs, tuple) or not all([is_pair(graph, pair) for pair in pairs]):
        return False
    known = {pair: True for pair in pairs}
    if len(known) != len(pairs) or first_pair(graph) not in known:
        return False
    deeds = book_deeds(graph, sets)
    for pair in pairs:
        for deed in deeds:
            after = pair_after(graph, first, second, pair, deed)
            if after is None or after not in known:
                return False
    return True


def check_unlike(graph, first, second, deeds):
    """Tell whether a value (any value) is a tuple of deeds of which the last one tells the programs apart."""
    check_rules(first, second)
    if not are_deeds(graph, deeds):
        return False
    one, other = first_pair(graph)
    for deed in deeds[:-1]:
        one, other = shown(graph, first, one, deed)[0], shown(graph, second, other, deed)[0]
    return pair_after(graph, first, second, (one, other), deeds[-1]) is None


def check_rules(first, second):
    check_rule(first)
    check_rule(second)


def first_pair(graph):
    state = first_state(graph)
    return (state, state)


def is_pair(graph, value):
    return is_tuple(value, 2, 2) and is_state(graph, value[0]) and is_state(graph, value[1])


def pair_after(graph, first, second, pair, deed):
    """Return the pair of states to which a deed leads, or None if the deed tells the programs apart."""
    one, told_by_one = shown(graph, first, pair[0], deed)
    other, told_by_other = shown(graph, second, pair[1], deed)
    return (one, other) if told_by_one == told_by_other else None


def shown(graph, rule, state, deed):
    """Return the state after a deed and what the deed shows: its calls, or the word of its refusal."""
    try:
        done = step(graph, rule, state, deed)
    except TooMany as refusal:
        return (state, refusal.what)
    return (done.state, done.calls)
