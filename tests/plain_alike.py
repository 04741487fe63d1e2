"""A plain comparison of the charges of two shops, written from point 14, over counted baskets."""

from tests.plain import plain_charge
from tests.plain_faults import plain_order


def plain_parting(one, other, most):
    """The first basket of at most so many pieces whose charges are unlike, or None."""
    for basket in plain_order(len(one[0]), most):
        if plain_charge(one, basket) != plain_charge(other, basket):
            return basket
    return None


def plain_exchanged(shop, number):
    goods, rules = shop
    turned = list(rules)
    turned[number], turned[number + 1] = rules[number + 1], rules[number]
    return (goods, tuple(turned))


def plain_exchangeable(shop, most):
    return [number for number in range(len(shop[1]) - 1)
            if plain_parting(shop, plain_exchanged(shop, number), most) is None]
