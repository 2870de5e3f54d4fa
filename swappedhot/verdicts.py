"""Verdicts: whether some run has a fault, with a paper that shows it, and checks of such papers."""

from swappedhot.books import Book, book_deeds
from swappedhot.judging import check_fault, judge, outcome, state_faults
from swappedhot.rules import check_rule
from swappedhot.running import first_state
from swappedhot.states import is_state
from swappedhot.swapping import are_deeds


def verdict(graph, rule, fault, *, sets=True, limit=2000):
    """Return ("run", deeds) if some run has a deed with the fault, otherwise ("closed", states)."""
    check_rule(rule)
    check_fault(graph, fault)
    book = Book(graph, rule, sets=sets, limit=limit)
    run = book.least_run(fault)
    if run is None:
        return ("closed", tuple(book.states()))
    return ("run", tuple(run))


def check_run(graph, rule, fault, deeds):
    """Tell whether a value (any value) is a tuple of deeds of which the last one has the fault."""
    check_rule(rule)
    check_fault(graph, fault)
    if not are_deeds(graph, deeds):
        return False
    state = first_state(graph)
    for deed in deeds[:-1]:
        state, _ = outcome(graph, rule, state, deed)
    return fault in judge(graph, rule, state, deeds[-1])


def check_closed(graph, rule, fault, states, *, sets=True):
    """Tell whether a value (any value) is a tuple of states that no run leaves and that shows the fault to no run."""
    check_rule(rule)
    check_fault(graph, fault)
    if not isinstance(states, tuple) or not all([is_state(graph, state) for state in states]):
        return False
    judged = {state: state_faults(graph, state) for state in states}
    if len(judged) != len(states) or first_state(graph) not in judged:
        return False
    deeds = book_deeds(graph, sets)
    for state in states:
        for deed in deeds:
            after, own = outcome(graph, rule, state, deed)
            if after not in judged or fault in judged[after] or fault in own:
                return False
    return True
