"""Whether two shops charge the same for all baskets, and which rules can change places."""

from math import lcm

from sureprices.baskets import baskets_within, charges_within
from sureprices.errors import Different
from sureprices.growth import cycle
from sureprices.shops import check_shop


def parting_limit(one, other, good):
    """Return the most pieces of a good that the first basket with unlike charges can have.

    From a start on, the difference of both charges changes by one number with each common cycle.
    If that number is 0, baskets with more pieces show no new difference. Otherwise the start
    and the end of the first cycle, without another good, do not both have the difference 0.
    """
    start, pieces, _ = cycle(one, good)
    other_start, other_pieces, _ = cycle(other, good)
    return max(start, other_start) + lcm(pieces, other_pieces)


def find_parting(one, other):
    """Return the first basket whose charges are unlike in two shops of as many goods, or None."""
    limits = [parting_limit(one, other, good) for good in range(len(one[0]))]
    charges = charges_within(one, limits)
    other_charges = charges_within(other, limits)
    for basket in baskets_within(limits):
        if charges[basket] != other_charges[basket]:
            return basket
    return None


def with_exchanged(shop, number):
    """Return the shop with a rule and the next one exchanged."""
    goods, rules = shop
    return (goods, rules[:number] + (rules[number + 1], rules[number]) + rules[number + 2:])


def check_both(one, other):
    """Raise InvalidShop if one of both is not a shop, or Different if their goods are not as many."""
    check_shop(one)
    check_shop(other)
    if len(one[0]) != len(other[0]):
        raise Different("these shops have not as many goods")


def same_charges(one, other):
    """Return whether the charges of all baskets are equal in two shops."""
    check_both(one, other)
    return find_parting(one, other) is None


def parting_basket(one, other):
    """Return the first basket whose charges are unlike in two shops, or None if there is none."""
    check_both(one, other)
    return find_parting(one, other)


def exchangeable(shop):
    """Return the ascending list of the numbers of the rules that can follow the next one as well."""
    check_shop(shop)
    return [number for number in range(len(shop[1]) - 1)
            if find_parting(shop, with_exchanged(shop, number)) is None]
