"""Plain ways to some answers, by going through everything, to compare others with."""

from sureprices.baskets import baskets_of
from sureprices.cures import all_bought_of, check_kinds, check_offers, is_cure_of, total_of
from sureprices.errors import InvalidNumber
from sureprices.faults import is_less
from sureprices.shops import check_shop, is_between

MOST_NAIVE = 40


def naive_less(shop, most):
    """Return the first fault "less" of all baskets of at most so many pieces, or None."""
    check_shop(shop)
    if not is_between(most, 0, MOST_NAIVE):
        raise InvalidNumber("this is not an integer from 0 to 40")
    goods = len(shop[0])
    for pieces in range(most + 1):
        for basket in baskets_of(pieces, (most,) * goods):
            for good in range(goods):
                fault = ("less", basket, good)
                if is_less(shop, fault):
                    return fault
    return None


def naive_least_price(shop, offers, kinds):
    """Return the least price of a cure by trying all bought acts, or None if there is none."""
    check_offers(shop, offers)
    check_kinds(kinds)
    prices = [total_of(offers, acts) for acts in all_bought_of(offers)
              if is_cure_of(shop, kinds, acts)]
    return min(prices, default=None)
