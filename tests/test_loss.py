"""Faults of the kind "loss": whether there is one, and some of them."""

import unittest

from sureprices.errors import NoFault
from sureprices.faults import has_loss, is_fault, some_loss

from tests.act_samples import SINKING_SHOP
from tests.plain import plain_gain
from tests.plain_faults import plain_far_loss, plain_first_loss
from tests.samples import PAIR, SHOP, mixed_shops, shops_of_one_good

MILLION = 10 ** 6


class LossTest(unittest.TestCase):
    def check_some(self, shop):
        self.assertIs(has_loss(shop), True, shop)
        fault = some_loss(shop)
        self.assertIs(fault.__class__, tuple)
        word, basket = fault
        self.assertEqual(word, "loss")
        self.assertIs(basket.__class__, tuple)
        self.assertEqual(len(basket), len(shop[0]))
        for pieces in basket:
            self.assertIs(pieces.__class__, int)
            self.assertTrue(0 <= pieces <= MILLION, (shop, basket))
        self.assertLess(plain_gain(shop, basket), 0, (shop, basket))
        self.assertIs(is_fault(shop, fault), True)
        return basket

    def check_none(self, shop):
        self.assertIs(has_loss(shop), False, shop)
        with self.assertRaises(NoFault):
            some_loss(shop)


class Examples(LossTest):
    def test_has_loss(self):
        self.assertIs(has_loss(SHOP), True)

    def test_some_loss(self):
        self.check_some(SHOP)
        self.assertIs(is_fault(SHOP, ("loss", (4,))), True)

    def test_keywords(self):
        self.assertIs(has_loss(shop=SHOP), True)
        self.assertEqual(some_loss(shop=SHOP), some_loss(SHOP))


class OneGood(LossTest):
    def test_no_rules(self):
        for price in range(1, 10):
            for cost in range(10):
                shop = (((price, cost),), ())
                if cost > price:
                    self.check_some(shop)
                else:
                    self.check_none(shop)

    def test_costs_0(self):
        self.check_none((((1, 0),), ()))
        # Charged nothing at all, but no piece costs anything.
        self.check_none((((6, 0),), (("each", 6, 6, 2),)))
        self.check_none((((1, 0),), (("from", 0, 2, 1), ("each", 2, 1, None), ("over", 2, 2))))

    def test_costs_above_the_price(self):
        self.check_some((((1, 9),), ()))
        # Two pieces are charged more than they cost, a single one less.
        basket = self.check_some((((8, 9),), (("from", 0, 2, 9),)))
        self.assertEqual(basket, (1,))
        # 8, 30, 38, 46, ..: 12 are gained with the pack, and each further piece loses 1.
        basket = self.check_some((((8, 9),), (("pack", 0, 2, 30, 1),)))
        self.assertTrue(basket == (1,) or basket[0] > 14)

    def test_only_in_small_baskets(self):
        # 5, 10, 3, 8, 13, 18: less than 3 each for three, four and five pieces.
        shop = (((5, 3),), (("pack", 0, 3, 3, 1),))
        basket = self.check_some(shop)
        self.assertIn(basket, [(3,), (4,), (5,)])
        shop = (((5, 4),), (("over", 10, 3),))
        # 5, 7, 12, 17: 3 are taken away once, and each piece gains 1.
        self.assertEqual(self.check_some(shop), (2,))

    def test_only_in_great_baskets(self):
        # Four pieces gain 46, 60 - 10 less 4, and each six more lose 1.
        self.assertIsNone(plain_first_loss(SINKING_SHOP, 200))
        basket = self.check_some(SINKING_SHOP)
        self.assertGreater(basket[0], 200)

    def test_only_from_a_few_pieces_on(self):
        basket = self.check_some((((9, 5),), (("from", 0, 4, 4),)))
        self.assertGreaterEqual(basket[0], 4)
        basket = self.check_some((((7, 6),), (("each", 6, 1, None),)))
        self.assertGreaterEqual(basket[0], 6)

    def test_slowly_sinking(self):
        # Each 18 pieces lose 1.
        shop = (((9, 7),), (("pack", 0, 3, 25, None), ("each", 6, 1, None)))
        self.assertIsNone(plain_first_loss(shop, 17))
        self.assertGreaterEqual(self.check_some(shop)[0], 18)

    def test_never(self):
        self.check_none((((5, 3),), (("pack", 0, 3, 9, None),)))
        self.check_none((((5, 3),), (("from", 0, 2, 3),)))
        self.check_none((((4, 3),), (("over", 12, 3),)))
        self.check_none((((6, 3),), (("each", 6, 3, None),)))
        self.check_none((((9, 0),), (("each", 2, 1, None), ("over", 12, 6), ("each", 6, 6, 2))))

    def test_gain_0_is_no_loss(self):
        self.check_none((((3, 3),), ()))
        self.check_none((((5, 3),), (("pack", 0, 3, 9, 1),)))
        self.check_some((((5, 3),), (("pack", 0, 3, 8, 1),)))


class TwoGoods(LossTest):
    def test_no_rules(self):
        self.check_none((((5, 3), (2, 1)), ()))
        self.check_none((((5, 5), (2, 2)), ()))
        self.assertGreater(self.check_some((((5, 3), (2, 3)), ()))[1], 0)
        self.assertGreater(self.check_some((((2, 3), (5, 3)), ()))[0], 0)

    def test_only_both_goods_together(self):
        # 18 - 6 less 12, and 12 - 6 less 6, but 13 - 6 less 8.
        over = ("over", 12, 6)
        self.check_none((((9, 6),), (over,)))
        self.check_none((((4, 2),), (over,)))
        self.check_some((((9, 6), (4, 2)), (over,)))

    def test_only_in_great_baskets(self):
        goods, rules = SINKING_SHOP
        shop = (((9, 1),) + goods, (("pack", 1, 2, 30, 2), rules[1]))
        self.assertIsNone(plain_first_loss(shop, 40))
        self.check_some(shop)
        shop = (goods + ((9, 1),), rules)
        self.assertIsNone(plain_first_loss(shop, 40))
        self.check_some(shop)

    def test_only_in_small_baskets(self):
        basket = self.check_some((((5, 3), (4, 4)), (("pack", 0, 3, 3, 1),)))
        self.assertIn(basket[0], (3, 4, 5))

    def test_never(self):
        self.check_none((((5, 2), (4, 2)), (("each", 6, 3, None),)))
        self.check_none((((9, 0), (1, 0)), (("each", 2, 1, None), ("over", 12, 6))))


class PlainSearch(LossTest):
    """Against going through all baskets up to a number of pieces, and some far out."""

    def check(self, shop, most):
        if plain_first_loss(shop, most) is None and plain_far_loss(shop) is None:
            self.check_none(shop)
        else:
            self.check_some(shop)

    def test_pair(self):
        self.check(PAIR, 40)

    def test_one_good(self):
        for shop in shops_of_one_good():
            self.check(shop, 24)
            for cost in (0, 1, 3):
                self.check((((4, cost),), shop[1]), 24)

    def test_mixed_shops(self):
        for goods, rules in mixed_shops(600):
            self.check((goods, rules), 16)
            self.check((tuple((price, price // 2) for price, _ in goods), rules), 16)
            self.check((tuple((price, 1) for price, _ in goods), rules), 16)
            self.check((tuple((price, 0) for price, _ in goods), rules), 16)
