"""Whether two shops charge the same, where they part, and which rules can change places."""

import unittest

from sureprices.alike import exchangeable, parting_basket, same_charges
from sureprices.charges import charge
from sureprices.errors import Different, InvalidShop

from tests.plain_alike import plain_exchangeable, plain_exchanged, plain_parting
from tests.samples import (
    LATE_SHOP, PAIR, SHOP, WRONG_SHOPS, mixed_shops, rules_on_goods, rules_on_sums,
    shops_of_one_good)

ONE = (((5, 3),), ())
TWO = (((5, 3), (5, 3)), ())


class AlikeTest(unittest.TestCase):
    def check(self, one, other, basket):
        """Check both functions, in both orders of the shops."""
        for first, second in ((one, other), (other, one)):
            self.assertEqual(parting_basket(first, second), basket, (first, second))
            self.assertIs(same_charges(first, second), basket is None)


class SameCharges(AlikeTest):
    def test_examples(self):
        self.assertIs(same_charges(SHOP, SHOP), True)
        self.assertEqual(parting_basket(SHOP, (((5, 0),), ())), (3,))
        self.assertIs(same_charges(one=SHOP, other=ONE), False)
        self.assertEqual(parting_basket(one=SHOP, other=ONE), (3,))

    def test_the_same_shop(self):
        for shop in (SHOP, PAIR, ONE, TWO, LATE_SHOP):
            self.check(shop, shop, None)

    def test_costs_do_not_count(self):
        self.check(SHOP, (((5, 9),), SHOP[1]), None)
        self.check(PAIR, (((5, 0), (2, 9)), PAIR[1]), None)

    def test_prices(self):
        self.check(ONE, (((6, 3),), ()), (1,))
        self.check(TWO, (((5, 3), (4, 3)), ()), (0, 1))
        self.check(TWO, (((4, 3), (5, 3)), ()), (1, 0))
        self.check(TWO, (((4, 3), (4, 3)), ()), (0, 1))

    def test_goods_exchanged(self):
        self.check((((5, 3), (2, 1)), ()), (((2, 1), (5, 3)), ()), (0, 1))
        self.check((((5, 3), (5, 1)), ()), (((5, 1), (5, 3)), ()), None)

    def test_rules_in_another_order(self):
        goods = ((5, 3),)
        pack, start, over, each = SHOP[1][0], ("from", 0, 2, 4), ("over", 12, 3), ("each", 6, 3, 1)
        self.check((goods, (pack, start)), (goods, (start, pack)), (3,))
        self.check((goods, (pack, over)), (goods, (over, pack)), None)
        self.check((goods, (pack, over, start)), (goods, (pack, start, over)), None)
        # Of 10, both leave 7; of all that is at least 12, both take 6 away.
        self.check((goods, (over, each)), (goods, (each, over)), None)
        # Of 8, the one leaves nothing and the other 6.
        self.check((((4, 0),), (("over", 8, 6), ("over", 2, 2))),
                   (((4, 0),), (("over", 2, 2), ("over", 8, 6))), (2,))

    def test_rules_that_come_to_the_same(self):
        goods = ((5, 3),)
        self.check(ONE, (goods, (("from", 0, 2, 5),)), None)
        self.check(ONE, (goods, (("pack", 0, 3, 15, None),)), None)
        self.check(ONE, (goods, (("pack", 0, 3, 15, 1),)), None)
        self.check((goods, (("pack", 0, 2, 10, 2), ("from", 0, 2, 1))), ONE, None)
        self.check((goods, (("from", 0, 2, 4),)), (goods, (("pack", 0, 2, 8, None),)), (3,))
        self.check((((3, 0),), (("each", 3, 1, None),)), (((2, 0),), ()), None)
        self.check((((3, 0),), (("each", 6, 2, None),)), (((2, 0),), ()), (1,))

    def test_an_idle_rule_more(self):
        goods, rules = SHOP
        self.check(SHOP, (goods, rules + (("from", 0, 3, 1),)), None)
        self.check(SHOP, (goods, rules + (("from", 0, 2, 1),)), (2,))
        self.check(PAIR, (PAIR[0], PAIR[1] + (("from", 1, 4, 9),)), None)

    def test_part_only_in_great_baskets(self):
        goods, rules = LATE_SHOP
        without = (goods, rules[:3])
        self.assertIsNone(plain_parting(LATE_SHOP, without, 70))
        self.check(LATE_SHOP, without, (71,))
        two_goods = goods + ((1, 0),)
        self.check((two_goods, rules), (two_goods, rules[:3]), (0, 71))
        dear = goods + ((9, 0),)
        self.check((dear, rules), (dear, rules[:3]), (0, 8))

    def test_the_parting_one_of_great_baskets_is_the_first(self):
        for least in (2, 3, 4, 5, 6):
            endless = ("each", least, least // 2, None)
            one = (((1, 0),), (endless, ("each", 6, 6, 2), ("over", 12, 1)))
            other = (((1, 0),), (endless, ("each", 6, 6, 2), ("over", 12, 2)))
            expected = plain_parting(one, other, 100)
            self.assertGreater(sum(expected), 30)
            self.check(one, other, expected)

    def test_growth_that_is_unlike_far_out(self):
        # Two packs each; then the price of the one is less.
        one = (((5, 0),), (("pack", 0, 3, 15, 2), ("each", 5, 1, None)))
        self.check(one, (((5, 0),), (("each", 5, 1, None),)), None)
        self.check(one, (((4, 0),), ()), None)
        # 18 pieces are one cycle of the one, 10 of the other.
        one = (((6, 0),), (("pack", 0, 3, 9, None), ("each", 6, 1, None)))
        other = (((6, 0),), (("pack", 0, 2, 9, None), ("each", 5, 1, None)))
        self.check(one, other, plain_parting(one, other, 20))

    def test_order_of_baskets(self):
        # (0, 2) has as many pieces as (2, 0), and comes before it.
        one = (((5, 3), (5, 3)), (("from", 0, 2, 1), ("from", 1, 2, 1)))
        self.check(one, TWO, (0, 2))
        self.check((one[0], one[1][:1]), TWO, (2, 0))
        self.check((one[0], (("from", 0, 2, 1), ("from", 1, 3, 1))), TWO, (2, 0))
        self.check((one[0], (("over", 10, 1),)), TWO, (0, 2))
        self.check((((4, 3), (6, 3)), (("over", 12, 1),)), (((4, 3), (6, 3)), ()), (0, 2))
        self.check((((6, 3), (4, 3)), (("over", 12, 1),)), (((6, 3), (4, 3)), ()), (2, 0))
        self.check((((6, 3), (4, 3)), (("over", 10, 1),)), (((6, 3), (4, 3)), ()), (1, 1))


class AgainstTheCount(AlikeTest):
    def test_one_good(self):
        shops = list(shops_of_one_good())
        for place in range(0, len(shops) - 1, 3):
            one, other = shops[place], shops[place + 1]
            self.check(one, other, plain_parting(one, other, 110))

    def test_orders_of_two_rules(self):
        for one in rules_on_sums():
            for other in rules_on_sums()[::2]:
                if one[-1] is None and other[-1] is None:
                    continue
                shop, turned = (((1, 0),), (one, other)), (((1, 0),), (other, one))
                self.check(shop, turned, plain_parting(shop, turned, 90))

    def test_mixed_shops(self):
        last = {1: ONE, 2: TWO}
        for shop in mixed_shops(200):
            other = last[len(shop[0])]
            last[len(shop[0])] = shop
            self.check(shop, other, plain_parting(shop, other, 30))
            for number in range(len(shop[1]) - 1):
                turned = plain_exchanged(shop, number)
                self.check(shop, turned, plain_parting(shop, turned, 30))


class DifferentShops(unittest.TestCase):
    def check(self, one, other, error):
        for function in (same_charges, parting_basket):
            with self.assertRaises(error) as caught:
                function(one, other)
            self.assertIs(caught.exception.__class__, error)

    def test_different(self):
        self.check(ONE, TWO, Different)
        self.check(TWO, ONE, Different)
        self.check(PAIR, SHOP, Different)

    def test_both_are_looked_at(self):
        for shop in WRONG_SHOPS:
            for right in (ONE, TWO):
                self.check(shop, right, InvalidShop)
                self.check(right, shop, InvalidShop)
            self.check(shop, shop, InvalidShop)

    def test_a_wrong_shop_comes_first(self):
        wrong = (((5, 3), (5, 3)), (("over", 5, 6),))
        for right in (ONE, TWO):
            self.check(wrong, right, InvalidShop)
            self.check(right, wrong, InvalidShop)


class Exchangeable(unittest.TestCase):
    def check(self, goods, rules, expected):
        self.assertEqual(exchangeable((goods, rules)), expected, rules)

    def test_examples(self):
        self.assertEqual(exchangeable(SHOP), [0])
        self.assertEqual(exchangeable(shop=SHOP), [0])

    def test_few_rules(self):
        self.check(((5, 3),), (), [])
        for rule in rules_on_goods(0) + rules_on_sums():
            self.check(((5, 3),), (rule,), [])

    def test_rules_on_a_good(self):
        goods = ((5, 3),)
        pack, start = ("pack", 0, 3, 9, None), ("from", 0, 2, 4)
        self.check(goods, (pack, start), [])
        self.check(goods, (start, pack), [])
        self.check(goods, (pack, pack), [0])
        # A rule that is never used may stand anywhere behind the one that fits before.
        self.check(goods, (pack, pack, start), [0, 1])
        self.check(goods, (start, pack, pack), [1])
        self.check(goods, (("pack", 0, 2, 5, 1), pack, start), [1])

    def test_rules_on_two_goods(self):
        goods = ((5, 3), (2, 1))
        one, other = ("pack", 0, 3, 9, None), ("from", 1, 2, 1)
        self.check(goods, (one, other), [0])
        self.check(goods, (other, one), [0])
        self.check(goods, (one, other, ("from", 0, 2, 1), ("from", 1, 3, 2)), [0, 1, 2])

    def test_rules_on_sums(self):
        goods = ((4, 0),)
        self.check(goods, (("over", 8, 6), ("over", 2, 2)), [])
        self.check(goods, (("over", 2, 1), ("over", 3, 1)), [0])
        self.check(goods, (("over", 12, 6), ("over", 12, 6)), [0])
        self.check(goods, (("each", 2, 1, None), ("over", 12, 3)), [])
        self.check(goods, (("each", 6, 3, 1), ("over", 2, 1)), [0])

    def test_a_rule_on_a_good_beside_one_on_sums(self):
        goods = ((5, 3),)
        pack, over, each = ("pack", 0, 3, 9, None), ("over", 12, 6), ("each", 6, 6, 2)
        self.check(goods, (pack, over), [0])
        self.check(goods, (over, pack), [0])
        self.check(goods, (over, pack, each), [0, 1])
        self.check(goods, (over, each, pack), [1])

    def test_only_great_baskets_tell(self):
        rules = (("each", 2, 1, None), ("each", 6, 6, 2), ("over", 12, 6), ("each", 6, 6, 2))
        expected = plain_exchangeable((((1, 0),), rules), 110)
        self.assertEqual(plain_exchangeable((((1, 0),), rules), 30), expected + [2])
        self.check(((1, 0),), rules, expected)

    def test_against_the_count(self):
        for shop in list(shops_of_one_good())[::3]:
            self.assertEqual(exchangeable(shop), plain_exchangeable(shop, 60), shop)
        for shop in mixed_shops(150):
            self.assertEqual(exchangeable(shop), plain_exchangeable(shop, 30), shop)

    def test_charges_stay_the_same(self):
        for shop in mixed_shops(60):
            for number in exchangeable(shop):
                turned = plain_exchanged(shop, number)
                for basket in ((0, 0), (7, 3), (50, 41), (10 ** 6, 10 ** 6 - 1)):
                    some = basket[:len(shop[0])]
                    self.assertEqual(charge(shop, some), charge(turned, some))
