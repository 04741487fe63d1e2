"""A plain search for faults and cures, written from points 7 to 11 and 14, over counted baskets."""

import functools
import itertools

from tests.plain import plain_charge, plain_gain, plain_uses

# Beyond this, a shop that loses with each piece more has lost all that the first ones gained.
FAR = 3000


@functools.lru_cache(maxsize=None)
def plain_order(goods, most):
    """All baskets of at most so many pieces: by the number of pieces, then as tuples."""
    baskets = itertools.product(range(most + 1), repeat=goods)
    counted = [basket for basket in baskets if sum(basket) <= most]
    return sorted(counted, key=lambda basket: (sum(basket), basket))


def one_more(basket, good):
    longer = list(basket)
    longer[good] += 1
    return tuple(longer)


def is_plain_less(shop, basket, good):
    return plain_charge(shop, one_more(basket, good)) < plain_charge(shop, basket)


@functools.lru_cache(maxsize=None)
def plain_first_less(shop, most):
    """The first fault "less" of a basket of at most so many pieces, or None."""
    charges = {}

    def charge(basket):
        if basket not in charges:
            charges[basket] = plain_charge(shop, basket)
        return charges[basket]

    for basket in plain_order(len(shop[0]), most):
        for good in range(len(basket)):
            if charge(one_more(basket, good)) < charge(basket):
                return ("less", basket, good)
    return None


@functools.lru_cache(maxsize=None)
def plain_first_loss(shop, most):
    """The first basket of at most so many pieces that is charged less than it costs, or None."""
    for basket in plain_order(len(shop[0]), most):
        if plain_gain(shop, basket) < 0:
            return basket
    return None


def plain_far_loss(shop):
    """A great basket of a single good that is charged less than it costs, or None."""
    for good in range(len(shop[0])):
        basket = tuple(FAR if number == good else 0 for number in range(len(shop[0])))
        if plain_gain(shop, basket) < 0:
            return basket
    return None


def plain_under(shop, acts):
    """The shop under acts, and the numbers that its rules had before."""
    goods, rules = shop
    left, numbers = [], []
    for number, rule in enumerate(rules):
        if ("off", number) in acts:
            continue
        for most in (2, 1):
            if ("most", number, most) in acts:
                rule = rule[:len(rule) - 1] + (most,)
        left.append(rule)
        numbers.append(number)
    return (goods, tuple(left)), numbers


def plain_touches(shop, acts, act, basket):
    left, numbers = plain_under(shop, acts)
    used = dict(zip(numbers, plain_uses(left, basket)))
    least = {"off": 1, "most": act[-1] + 1}[act[0]]
    return used.get(act[1], 0) >= least


def plain_is_cure(shop, kinds, acts, most):
    left, _ = plain_under(shop, acts)
    if "less" in kinds and plain_first_less(left, most) is not None:
        return False
    if "loss" in kinds:
        return plain_first_loss(left, most) is None and plain_far_loss(left) is None
    return True


def plain_bought(offers):
    """All bought acts with their prices."""
    for many in range(len(offers) + 1):
        for some in itertools.combinations(offers, many):
            yield tuple(act for act, _ in some), sum(price for _, price in some)


def plain_cures(shop, offers, kinds, most):
    """The least price and all cures with it, by trying all bought acts; None and [] if none."""
    cures = [(price, acts) for acts, price in plain_bought(offers)
             if plain_is_cure(shop, kinds, acts, most)]
    least = min([price for price, _ in cures], default=None)
    return least, sorted(acts for price, acts in cures if price == least)


def plain_sure(offers, cures):
    return [act for act, _ in offers if cures and all(act in acts for acts in cures)]
