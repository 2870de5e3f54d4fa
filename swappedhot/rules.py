"""Rules: in which order modules are put away, what past modules lead to, and what becomes of data."""

from swappedhot.errors import InvalidRule
from swappedhot.plain import is_tuple

ORDERS = ("near", "far")
PASTS = ("reload", "stay", "again")
DATA = ("kept", "lost")


def all_rules():
    """Return the list of the twelve rules, order changing slowest and data fastest."""
    return [(order, past, data) for order in ORDERS for past in PASTS for data in DATA]


def check_rule(value):
    """Raise InvalidRule if a value (any value) is not a rule."""
    if not is_tuple(value, 3, 3):
        raise InvalidRule(())
    for index, words in enumerate((ORDERS, PASTS, DATA)):
        if value[index] not in words:
            raise InvalidRule((index,))
