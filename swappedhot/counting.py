"""Counting the runs and the states of a book."""

from swappedhot.errors import BadLength
from swappedhot.judging import check_kinds
from swappedhot.plain import is_index


def count_runs(book, kinds, length):
    """Return the number of the runs of a length in which no deed has a fault of one of the kinds."""
    check_kinds(kinds)
    if not is_index(length, 101):
        raise BadLength(length)
    steps = good_steps(book, kinds)
    ways = {0: 1}
    for _ in range(length):
        ways = one_step_on(ways, steps)
    return sum(ways.values())


def good_steps(book, kinds):
    """Return for each state a dict: how many deeds without such faults lead to which state."""
    steps = [{} for _ in range(len(book))]
    for k, _, target, faults in book.edges():
        if not any([kind in kinds for kind, _ in faults]):
            steps[k][target] = steps[k].get(target, 0) + 1
    return steps


def one_step_on(ways, steps):
    """Return the numbers of the runs that lead to the states, if the runs become longer by one deed."""
    longer = {}
    for k in ways:
        for target, many in steps[k].items():
            longer[target] = longer.get(target, 0) + ways[k] * many
    return longer


def distances(book):
    """Return the list of the numbers of states by the least number of deeds that leads to them."""
    counts = {}
    for k in range(len(book)):
        many = len(book.route(k))
        counts[many] = counts.get(many, 0) + 1
    return [counts[many] for many in range(len(counts))]
