"""Idle rules, and the effect of each rule on a charge."""

import unittest

from sureprices.rules import effects, idle_rules

from tests.plain import plain_charge, plain_uses
from tests.plain_faults import plain_order
from tests.samples import (
    LATE_SHOP, PAIR, SHOP, mixed_shops, rules_on_goods, rules_on_sums, shops_of_one_good,
    small_baskets)

MILLION = 10 ** 6


def plain_idle(shop, most):
    """The rules that no basket of at most so many pieces uses."""
    used = [False] * len(shop[1])
    for basket in plain_order(len(shop[0]), most):
        used = [one or times > 0 for one, times in zip(used, plain_uses(shop, basket))]
        if all(used):
            break
    return [number for number, one in enumerate(used) if not one]


class IdleRules(unittest.TestCase):
    def check(self, rules, expected, goods=((5, 3),)):
        self.assertEqual(idle_rules((goods, rules)), expected, rules)

    def test_examples(self):
        self.assertEqual(idle_rules(SHOP), [])
        self.assertEqual(idle_rules(shop=PAIR), [])
        self.assertEqual(idle_rules((((5, 3),), ())), [])

    def test_an_earlier_rule_always_fits(self):
        small, great = ("pack", 0, 2, 9, None), ("pack", 0, 3, 9, 1)
        self.check((small, great), [1])
        self.check((great, small), [])
        self.check((small, small), [1])
        self.check((great, great), [1])
        self.check((small, great, small, great), [1, 2, 3])
        self.check((great, small, great, small), [2, 3])

    def test_from_rules(self):
        least2, least3, least4 = [("from", 0, least, 4) for least in (2, 3, 4)]
        self.check((least2, least3, least4), [1, 2])
        self.check((least4, least3, least2), [])
        self.check((least3, least4, least2, least3), [1, 3])
        self.check((("pack", 0, 3, 9, 1), least3, least4, least2), [1, 2])
        self.check((("pack", 0, 2, 9, 1), least3, least4, least2), [1, 2, 3])
        self.check((least3, ("pack", 0, 2, 9, 1), ("pack", 0, 3, 9, 1)), [2])

    def test_rules_on_sums_between(self):
        least2, least3 = ("from", 0, 2, 4), ("from", 0, 3, 4)
        self.check((("over", 12, 6), least2, ("each", 6, 6, 1), least3), [3])
        self.check((least2, ("over", 12, 6), least3, ("over", 2, 2)), [2])

    def test_two_goods(self):
        goods = ((5, 3), (2, 1))
        one, other = ("from", 0, 2, 4), ("from", 1, 2, 4)
        self.check((one, other), [], goods)
        self.check((one, other, one, other), [2, 3], goods)
        self.check((one, other, ("from", 0, 3, 1), ("from", 1, 4, 1)), [2, 3], goods)
        self.check((("from", 0, 4, 1), one, other, ("pack", 1, 2, 2, None)), [3], goods)

    def test_a_rule_on_sums_is_never_idle(self):
        for rule in rules_on_sums():
            for before in rules_on_sums():
                if rule[0] == before[0] == "each" and rule[3] is None and before[3] is None:
                    continue
                shop = (((1, 0),), (before, rule))
                self.assertEqual(idle_rules(shop), plain_idle(shop, 60), shop)
                self.assertEqual(idle_rules(shop), [], shop)

    def test_used_only_in_great_baskets(self):
        self.assertEqual(idle_rules(LATE_SHOP), [])
        self.assertEqual(plain_idle(LATE_SHOP, 70), [3])
        self.assertEqual(plain_idle(LATE_SHOP, 71), [])
        goods, rules = LATE_SHOP
        two_goods = (goods + ((1, 0),), rules)
        self.assertEqual(idle_rules(two_goods), [])
        self.assertEqual(plain_idle(two_goods, 40), [3])

    def test_all_pairs_on_a_good(self):
        for one in rules_on_goods(0):
            for other in rules_on_goods(0):
                shop = (((5, 3),), (one, other))
                self.assertEqual(idle_rules(shop), plain_idle(shop, 12), shop)

    def test_one_good(self):
        for shop in shops_of_one_good():
            self.assertEqual(idle_rules(shop), plain_idle(shop, 80), shop)

    def test_mixed_shops(self):
        for shop in mixed_shops(300):
            self.assertEqual(idle_rules(shop), plain_idle(shop, 60), shop)


class Effects(unittest.TestCase):
    def check(self, shop, basket, expected):
        self.assertEqual(effects(shop, basket), expected)

    def test_examples(self):
        self.check(SHOP, (4,), [6, 3])
        self.assertEqual(effects(shop=SHOP, basket=(4,)), [6, 3])

    def test_no_rules(self):
        self.check((((5, 3),), ()), (4,), [])
        self.check((((5, 3), (2, 1)), ()), (4, MILLION), [])

    def test_no_pieces(self):
        self.check(SHOP, (0,), [0, 0])
        self.check(PAIR, (0, 0), [0, 0, 0])

    def test_below_nothing(self):
        # Three pieces at 30 instead of 15; 12 is reached only without the pack.
        self.check((((5, 3),), (("pack", 0, 3, 30, None),)), (3,), [-15])
        self.check((((5, 3),), (("from", 0, 2, 9), ("over", 12, 3))), (3,), [-12, 3])
        self.check((((5, 3),), (("pack", 0, 3, 9, None), ("over", 12, 6))), (3,), [0, 0])
        self.check((((4, 3),), (("pack", 0, 3, 9, None), ("over", 12, 6))), (3,), [-3, 0])

    def test_rules_on_sums(self):
        # Of 12, 6 is taken away first; what is left does not reach 12 any more.
        self.check((((4, 0),), (("each", 6, 3, 2), ("over", 12, 3))), (3,), [3, 0])
        self.check((((4, 0),), (("over", 12, 3), ("each", 6, 3, 2))), (3,), [0, 3])
        self.check((((4, 0),), (("over", 12, 6), ("over", 12, 6))), (3,), [0, 0])
        self.check((((4, 0),), (("over", 12, 6), ("over", 12, 6))), (5,), [6, 6])

    def test_without_the_first_rule_the_next_one_fits(self):
        shop = (((5, 3),), (("pack", 0, 2, 4, 1), ("from", 0, 3, 1)))
        self.check(shop, (2,), [6, 0])
        self.check(shop, (3,), [-6, 0])

    def test_goods_and_sums(self):
        # Of 12 + 4, 10 is left; of 12 + 8, 11 would be, and of 15 + 4 also 10.
        self.check(PAIR, (3, 4), [1, 0, 6])

    def test_great_baskets(self):
        self.check(SHOP, (MILLION,), [5 * MILLION - (333333 * 9 + 5), 3])
        self.check((((5, 0), (9, 0)), (("from", 0, 2, 1), ("pack", 1, 2, 2, None))),
                   (MILLION, MILLION), [4 * MILLION, 8 * MILLION])

    def test_against_the_plain_count(self):
        for shop in mixed_shops(200):
            goods, rules = shop
            for basket in small_baskets(shop, 5):
                expected = []
                for number in range(len(rules)):
                    others = tuple(rule for at, rule in enumerate(rules) if at != number)
                    more = plain_charge((goods, others), basket) - plain_charge(shop, basket)
                    expected.append(more)
                self.check(shop, basket, expected)
