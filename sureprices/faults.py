"""Faults: a piece more that lowers the charge, and baskets that are charged less than they cost.

The functions whose names begin with `find_` or end in `_of` check nothing.
"""

from sureprices.baskets import baskets_within, charges_within, with_more
from sureprices.charges import charge_of, costs_of, gain_of
from sureprices.errors import NoFault
from sureprices.growth import cycles
from sureprices.shops import are_pieces, check_shop, is_between


def box_of(shop):
    """Return a box of the shop.

    A basket with more pieces of a good than this shows the same faults of the kind "less" as
    the basket with the pieces of a cycle fewer: all charges that count are less by one number.
    """
    return tuple([start + pieces - 1 for start, pieces, _ in cycles(shop)])


def find_less(shop):
    """Return the first fault of the kind "less", or None.

    The first one lies in the box, since outside of it one with fewer pieces is the same.
    """
    limits = box_of(shop)
    charges = charges_within(shop, [limit + 1 for limit in limits])
    for basket in baskets_within(limits):
        for good in range(len(limits)):
            if charges[with_more(basket, good, 1)] < charges[basket]:
                return ("less", basket, good)
    return None


def find_sinking(shop):
    """Return a basket with a loss of a good that loses with each cycle, or None without such.

    The baskets in the box must be without losses.
    """
    empty = (0,) * len(shop[0])
    for good, (start, pieces, growth) in enumerate(cycles(shop)):
        lost = shop[0][good][1] * pieces - growth
        if lost > 0:
            basket = with_more(empty, good, start)
            times = gain_of(shop, basket) // lost + 1
            return with_more(basket, good, times * pieces)
    return None


def find_loss(shop):
    """Return a basket with a loss, or None.

    If no good loses with its cycle, a loss outside of the box is none the less with the pieces
    of a cycle fewer; so there is one in the box, too.
    """
    charges = charges_within(shop, box_of(shop))
    for basket, charged in charges.items():
        if charged < costs_of(shop, basket):
            return basket
    return find_sinking(shop)


def find_fault(shop, kinds):
    """Return a fault of the kinds, or None."""
    if "less" in kinds:
        found = find_less(shop)
        if found is not None:
            return found
    if "loss" in kinds:
        basket = find_loss(shop)
        if basket is not None:
            return ("loss", basket)
    return None


def has_less(shop):
    """Return whether there is a fault of the kind "less"."""
    check_shop(shop)
    return find_less(shop) is not None


def first_less(shop):
    """Return the first fault of the kind "less"; raise NoFault if there is none."""
    check_shop(shop)
    found = find_less(shop)
    if found is None:
        raise NoFault("one piece more never costs less in this shop")
    return found


def box(shop):
    """Return a box: numbers of pieces within which there is a fault "less" if there is any."""
    check_shop(shop)
    return box_of(shop)


def has_loss(shop):
    """Return whether there is a fault of the kind "loss"."""
    check_shop(shop)
    return find_loss(shop) is not None


def some_loss(shop):
    """Return a fault of the kind "loss"; raise NoFault if there is none."""
    check_shop(shop)
    basket = find_loss(shop)
    if basket is None:
        raise NoFault("no basket is charged less than it costs this shop")
    return ("loss", basket)


def is_less(shop, value):
    """Return whether value, a tuple that begins with "less" and a basket, is a fault."""
    if len(value) != 3 or not is_between(value[2], 0, len(shop[0]) - 1):
        return False
    _, basket, good = value
    return charge_of(shop, with_more(basket, good, 1)) < charge_of(shop, basket)


def is_fault(shop, value):
    """Return whether value, which may be any object, is a fault in a basket of any size."""
    check_shop(shop)
    if not isinstance(value, tuple) or len(value) < 2:
        return False
    word, basket = value[:2]
    if not isinstance(word, str) or not are_pieces(shop, basket):
        return False
    if word == "less":
        return is_less(shop, value)
    return word == "loss" and len(value) == 2 and gain_of(shop, basket) < 0
