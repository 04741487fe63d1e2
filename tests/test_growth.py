"""The first sentence of point 8: far out, amounts and charges grow by one and the same number."""

import unittest

from sureprices.charges import amounts, charge
from sureprices.growth import cycles

from tests.plain import plain_charge
from tests.samples import PAIR, SHOP, mixed_shops, shops_of_one_good

STARTS = (1000, 77777, 999900)


def first_rule(shop, good):
    for rule in shop[1]:
        if rule[0] in ("pack", "from") and rule[1] == good:
            return rule
    return None


def step_of_good(shop, good):
    """With how many pieces, and by how much, the amount of a good grows far out."""
    rule = first_rule(shop, good)
    price = shop[0][good][0]
    if rule is None:
        return 1, price
    if rule[0] == "from":
        return 1, rule[3]
    _, _, size, pack_price, most = rule
    return (size, pack_price) if most is None else (1, price)


def step_of_sums(shop):
    """With how much more to pay, and by how much, the charge grows far out."""
    for rule in shop[1]:
        if rule[0] == "each" and rule[3] is None:
            return rule[1], rule[1] - rule[2]
    return 1, 1


def with_more(basket, good, more):
    return basket[:good] + (basket[good] + more,) + basket[good + 1:]


def shops():
    return [SHOP, PAIR] + list(shops_of_one_good()) + list(mixed_shops(300))


def far_baskets(shop):
    for start in STARTS:
        for offset in range(4):
            yield (start + offset,) * len(shop[0])


class Growth(unittest.TestCase):
    def test_amounts(self):
        for shop in shops():
            for basket in far_baskets(shop):
                for good in range(len(basket)):
                    pieces, more = step_of_good(shop, good)
                    before = amounts(shop, basket)
                    after = amounts(shop, with_more(basket, good, pieces))
                    self.assertEqual(after, with_more(before, good, more), (shop, basket))

    def test_charges(self):
        for shop in shops():
            paid, left = step_of_sums(shop)
            for basket in far_baskets(shop):
                for good in range(len(basket)):
                    pieces, more = step_of_good(shop, good)
                    greater = with_more(basket, good, pieces * paid)
                    grown = charge(shop, greater) - charge(shop, basket)
                    self.assertEqual(grown, more * left, (shop, basket))

    def test_charges_of_a_good_of_price_1(self):
        for _, rules in shops():
            rules = tuple(rule for rule in rules if rule[0] in ("over", "each"))
            shop = (((1, 0),), rules)
            paid, left = step_of_sums(shop)
            for basket in far_baskets(shop):
                grown = charge(shop, (basket[0] + paid,)) - charge(shop, basket)
                self.assertEqual(grown, left, (shop, basket))


class Cycles(unittest.TestCase):
    """The number of pieces from which on charges grow evenly, whatever else is in the basket."""

    def check(self, shop, most, rest):
        for good, (start, pieces, growth) in enumerate(cycles(shop)):
            self.assertGreater(pieces, 0)
            self.assertGreater(growth, 0)
            for extra in range(most):
                for others in range(rest if len(shop[0]) > 1 else 1):
                    few = with_more((others,) * len(shop[0]), good, start + extra - others)
                    many = with_more(few, good, pieces)
                    grown = plain_charge(shop, many) - plain_charge(shop, few)
                    self.assertEqual(grown, growth, (shop, few, many))

    def test_one_good(self):
        for shop in shops_of_one_good():
            self.check(shop, 20, 1)

    def test_low_prices(self):
        for _, rules in mixed_shops(800):
            rules = tuple(rule for rule in rules if rule[0] in ("over", "each"))
            self.check((((1, 0),), rules), 20, 1)

    def test_mixed_shops(self):
        for shop in mixed_shops(300):
            self.check(shop, 8, 3)
