"""Baskets that contain a basket: the least charge of them, and the first one that is charged less.

Only check_few, least_above and fewest_more check what they are passed.
"""

from sureprices.baskets import baskets_within, charges_within
from sureprices.charges import charge_of
from sureprices.errors import InvalidBasket
from sureprices.growth import cycles
from sureprices.shops import check_basket

MOST_IN_ALL = 100


def check_few(shop, basket):
    """Raise the exception of an argument that is not what its name says, or has too many pieces."""
    check_basket(shop, basket)
    if sum(basket) > MOST_IN_ALL:
        raise InvalidBasket("this basket has more than 100 pieces")


def contains(greater, basket):
    """Return whether a basket contains another one."""
    return all([more >= pieces for more, pieces in zip(greater, basket)])


def limits_above(shop, basket):
    """Return limits of each good beyond which a basket need not be looked at.

    With the pieces of a cycle fewer, such a one still contains the basket and is charged less.
    """
    return [max(start, pieces) + more - 1
            for (start, more, _), pieces in zip(cycles(shop), basket)]


def charges_above(shop, basket):
    """Return the list of the charges of baskets that contain the basket, each with its basket.

    The first baskets (point 14) come first; those beyond the limits are left out.
    """
    limits = limits_above(shop, basket)
    charges = charges_within(shop, limits)
    return [(charges[greater], greater) for greater in baskets_within(limits)
            if contains(greater, basket)]


def least_above(shop, basket):
    """Return the least charge of all baskets that contain the basket, and the first with it."""
    check_few(shop, basket)
    found = charges_above(shop, basket)
    least = min([charged for charged, _ in found])
    cheapest = [greater for charged, greater in found if charged == least]
    return (least, cheapest[0])


def fewest_more(shop, basket):
    """Return the first basket that contains the basket and is charged less, or None."""
    check_few(shop, basket)
    own = charge_of(shop, basket)
    for charged, greater in charges_above(shop, basket):
        if charged < own:
            return greater
    return None
