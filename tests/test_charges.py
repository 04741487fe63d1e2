"""Amounts, charges, uses and gains of baskets that were counted by hand."""

import unittest

from sureprices.charges import amounts, charge, gain, uses

from tests.samples import PAIR, SHOP

MILLION = 10 ** 6


class ChargeTest(unittest.TestCase):
    def check(self, shop, basket, told_amounts, told_charge, told_uses, told_gain):
        self.assertEqual(amounts(shop, basket), told_amounts)
        self.assertEqual(charge(shop, basket), told_charge)
        self.assertEqual(uses(shop, basket), told_uses)
        self.assertEqual(gain(shop, basket), told_gain)
        for answer in (amounts(shop, basket), uses(shop, basket)):
            self.assertIs(answer.__class__, tuple)
            self.assertTrue(all(number.__class__ is int for number in answer))
        self.assertIs(charge(shop, basket).__class__, int)
        self.assertIs(gain(shop, basket).__class__, int)


class Examples(ChargeTest):
    def test_amounts(self):
        self.assertEqual(amounts(SHOP, (4,)), (14,))

    def test_charge(self):
        self.assertEqual(charge(SHOP, (4,)), 11)

    def test_uses(self):
        self.assertEqual(uses(SHOP, (7,)), (2, 1))

    def test_gain(self):
        self.assertEqual(gain(SHOP, (4,)), -1)

    def test_keywords(self):
        self.assertEqual(amounts(shop=SHOP, basket=(4,)), (14,))
        self.assertEqual(charge(shop=SHOP, basket=(4,)), 11)
        self.assertEqual(uses(shop=SHOP, basket=(7,)), (2, 1))
        self.assertEqual(gain(shop=SHOP, basket=(4,)), -1)


class NoRules(ChargeTest):
    def test_one_good(self):
        shop = (((5, 3),), ())
        self.check(shop, (0,), (0,), 0, (), 0)
        self.check(shop, (1,), (5,), 5, (), 2)
        self.check(shop, (7,), (35,), 35, (), 14)
        self.check(shop, (MILLION,), (5 * MILLION,), 5 * MILLION, (), 2 * MILLION)

    def test_two_goods(self):
        shop = (((5, 3), (2, 9)), ())
        self.check(shop, (0, 0), (0, 0), 0, (), 0)
        self.check(shop, (3, 0), (15, 0), 15, (), 6)
        self.check(shop, (0, 3), (0, 6), 6, (), -21)
        self.check(shop, (3, 4), (15, 8), 23, (), 6 - 28)
        self.check(shop, (MILLION, MILLION), (5 * MILLION, 2 * MILLION), 7 * MILLION, (),
                   -5 * MILLION)


class Packs(ChargeTest):
    def test_most_none(self):
        shop = (((5, 3),), (("pack", 0, 3, 9, None),))
        self.check(shop, (0,), (0,), 0, (0,), 0)
        self.check(shop, (2,), (10,), 10, (0,), 4)
        self.check(shop, (3,), (9,), 9, (1,), 0)
        self.check(shop, (5,), (19,), 19, (1,), 4)
        self.check(shop, (6,), (18,), 18, (2,), 0)
        self.check(shop, (10,), (32,), 32, (3,), 2)
        self.check(shop, (MILLION,), (333333 * 9 + 5,), 333333 * 9 + 5, (333333,), 2)

    def test_most_1(self):
        shop = (((5, 3),), (("pack", 0, 3, 9, 1),))
        self.check(shop, (2,), (10,), 10, (0,), 4)
        self.check(shop, (3,), (9,), 9, (1,), 0)
        self.check(shop, (6,), (24,), 24, (1,), 6)
        self.check(shop, (MILLION,), (5 * MILLION - 6,), 5 * MILLION - 6, (1,), 2 * MILLION - 6)

    def test_most_2(self):
        shop = (((5, 3),), (("pack", 0, 2, 4, 2),))
        self.check(shop, (1,), (5,), 5, (0,), 2)
        self.check(shop, (2,), (4,), 4, (1,), -2)
        self.check(shop, (3,), (9,), 9, (1,), 0)
        self.check(shop, (4,), (8,), 8, (2,), -4)
        self.check(shop, (6,), (18,), 18, (2,), 0)
        self.check(shop, (MILLION,), (5 * MILLION - 12,), 5 * MILLION - 12, (2,),
                   2 * MILLION - 12)

    def test_dearer_than_the_pieces(self):
        shop = (((1, 0),), (("pack", 0, 2, 30, 1),))
        self.check(shop, (1,), (1,), 1, (0,), 1)
        self.check(shop, (3,), (31,), 31, (1,), 31)

    def test_on_the_second_good(self):
        shop = (((5, 3), (4, 1)), (("pack", 1, 2, 6, None),))
        self.check(shop, (4, 1), (20, 4), 24, (0,), 11)
        self.check(shop, (4, 5), (20, 16), 36, (2,), 19)


class Froms(ChargeTest):
    def test_each_piece_costs_the_price(self):
        shop = (((5, 3),), (("from", 0, 3, 2),))
        self.check(shop, (0,), (0,), 0, (0,), 0)
        self.check(shop, (2,), (10,), 10, (0,), 4)
        self.check(shop, (3,), (6,), 6, (1,), -3)
        self.check(shop, (8,), (16,), 16, (1,), -8)
        self.check(shop, (MILLION,), (2 * MILLION,), 2 * MILLION, (1,), -MILLION)

    def test_each_least(self):
        for least in (2, 3, 4):
            shop = (((5, 3),), (("from", 0, least, 9),))
            self.check(shop, (least - 1,), (5 * least - 5,), 5 * least - 5, (0,), 2 * least - 2)
            self.check(shop, (least,), (9 * least,), 9 * least, (1,), 6 * least)

    def test_on_one_good_of_two(self):
        shop = (((5, 3), (4, 1)), (("from", 0, 2, 3),))
        self.check(shop, (1, 7), (5, 28), 33, (0,), 23)
        self.check(shop, (2, 7), (6, 28), 34, (1,), 21)


class RulesOnOneGood(ChargeTest):
    def test_a_pack_rule_hides_a_later_rule(self):
        shop = (((5, 3),), (("pack", 0, 2, 8, 1), ("from", 0, 4, 1)))
        self.check(shop, (1,), (5,), 5, (0, 0), 2)
        self.check(shop, (4,), (18,), 18, (1, 0), 6)
        self.check(shop, (MILLION,), (5 * MILLION - 2,), 5 * MILLION - 2, (1, 0),
                   2 * MILLION - 2)

    def test_a_pack_rule_hides_a_later_pack_rule(self):
        shop = (((5, 3),), (("pack", 0, 2, 8, 1), ("pack", 0, 2, 2, None)))
        self.check(shop, (4,), (18,), 18, (1, 0), 6)
        shop = (((5, 3),), (("pack", 0, 3, 9, 1), ("pack", 0, 2, 4, None)))
        self.check(shop, (2,), (4,), 4, (0, 1), -2)
        self.check(shop, (3,), (9,), 9, (1, 0), 0)
        self.check(shop, (5,), (19,), 19, (1, 0), 4)

    def test_a_from_rule_hides_a_later_rule(self):
        shop = (((5, 3),), (("from", 0, 2, 4), ("pack", 0, 3, 3, None), ("from", 0, 2, 1)))
        self.check(shop, (1,), (5,), 5, (0, 0, 0), 2)
        self.check(shop, (2,), (8,), 8, (1, 0, 0), 2)
        self.check(shop, (6,), (24,), 24, (1, 0, 0), 6)

    def test_an_earlier_rule_that_does_not_fit_hides_nothing(self):
        shop = (((5, 3),), (("from", 0, 4, 1), ("pack", 0, 3, 9, 2), ("from", 0, 2, 4)))
        self.check(shop, (1,), (5,), 5, (0, 0, 0), 2)
        self.check(shop, (2,), (8,), 8, (0, 0, 1), 2)
        self.check(shop, (3,), (9,), 9, (0, 1, 0), 0)
        self.check(shop, (4,), (4,), 4, (1, 0, 0), -8)

    def test_rules_on_another_good_hide_nothing(self):
        shop = (((5, 3), (4, 1)), (("from", 1, 2, 1), ("pack", 0, 2, 7, None)))
        self.check(shop, (2, 1), (7, 4), 11, (0, 1), 4)
        self.check(shop, (2, 2), (7, 2), 9, (1, 1), 1)
        self.check(shop, (5, 3), (19, 3), 22, (1, 2), 4)

    def test_the_sequence_of_rules_on_unlike_goods_does_not_count(self):
        pack, least = ("pack", 0, 2, 7, 1), ("from", 1, 3, 1)
        goods = ((5, 3), (4, 1))
        self.check((goods, (pack, least)), (3, 4), (12, 4), 16, (1, 1), 3)
        self.check((goods, (least, pack)), (3, 4), (12, 4), 16, (1, 1), 3)


class Overs(ChargeTest):
    def test_from_the_sum_on(self):
        shop = (((4, 1),), (("over", 12, 6),))
        self.check(shop, (0,), (0,), 0, (0,), 0)
        self.check(shop, (2,), (8,), 8, (0,), 6)
        self.check(shop, (3,), (12,), 6, (1,), 3)
        self.check(shop, (4,), (16,), 10, (1,), 6)
        self.check(shop, (MILLION,), (4 * MILLION,), 4 * MILLION - 6, (1,), 3 * MILLION - 6)

    def test_one_less_than_the_sum(self):
        shop = (((1, 0),), (("over", 7, 2),))
        self.check(shop, (6,), (6,), 6, (0,), 6)
        self.check(shop, (7,), (7,), 5, (1,), 5)

    def test_the_whole_sum(self):
        self.check((((2, 2),), (("over", 2, 2),)), (1,), (2,), 0, (1,), -2)

    def test_two_goods_together(self):
        shop = (((5, 3), (2, 1)), (("over", 9, 4),))
        self.check(shop, (1, 1), (5, 2), 7, (0,), 3)
        self.check(shop, (1, 2), (5, 4), 5, (1,), 0)

    def test_two_overs(self):
        shop = (((5, 3),), (("over", 10, 3), ("over", 8, 5)))
        self.check(shop, (1,), (5,), 5, (0, 0), 2)
        self.check(shop, (2,), (10,), 7, (1, 0), 1)
        self.check(shop, (3,), (15,), 7, (1, 1), -2)


class Eaches(ChargeTest):
    def test_most_none(self):
        shop = (((1, 0),), (("each", 4, 2, None),))
        self.check(shop, (3,), (3,), 3, (0,), 3)
        self.check(shop, (4,), (4,), 2, (1,), 2)
        self.check(shop, (8,), (8,), 4, (2,), 4)
        self.check(shop, (11,), (11,), 7, (2,), 7)
        self.check(shop, (12,), (12,), 6, (3,), 6)
        self.check(shop, (MILLION,), (MILLION,), MILLION // 2, (MILLION // 4,), MILLION // 2)

    def test_most_1(self):
        shop = (((1, 0),), (("each", 4, 4, 1),))
        self.check(shop, (3,), (3,), 3, (0,), 3)
        self.check(shop, (4,), (4,), 0, (1,), 0)
        self.check(shop, (8,), (8,), 4, (1,), 4)
        self.check(shop, (MILLION,), (MILLION,), MILLION - 4, (1,), MILLION - 4)

    def test_most_2(self):
        shop = (((3, 2),), (("each", 6, 5, 2),))
        self.check(shop, (1,), (3,), 3, (0,), 1)
        self.check(shop, (2,), (6,), 1, (1,), -3)
        self.check(shop, (3,), (9,), 4, (1,), -2)
        self.check(shop, (4,), (12,), 2, (2,), -6)
        self.check(shop, (6,), (18,), 8, (2,), -4)
        self.check(shop, (MILLION,), (3 * MILLION,), 3 * MILLION - 10, (2,), MILLION - 10)

    def test_two_eaches(self):
        shop = (((4, 1),), (("each", 4, 2, 2), ("each", 3, 1, None)))
        self.check(shop, (1,), (4,), 2, (1, 0), 1)
        self.check(shop, (2,), (8,), 3, (2, 1), 1)
        self.check(shop, (5,), (20,), 11, (2, 5), 6)


class Sequences(ChargeTest):
    goods = ((5, 3),)
    over = ("over", 10, 4)

    def test_over_before_each(self):
        goods = ((5, 1),)
        self.check((goods, (self.over, ("each", 5, 3, 1))), (3,), (15,), 8, (1, 1), 5)
        self.check((goods, (self.over, ("each", 5, 3, 2))), (3,), (15,), 5, (1, 2), 2)
        self.check((goods, (self.over, ("each", 5, 2, None))), (3,), (15,), 7, (1, 2), 4)
        self.check((goods, (self.over, ("each", 6, 3, None))), (3,), (15,), 8, (1, 1), 5)

    def test_each_before_over(self):
        each = ("each", 6, 3, None)
        self.check((self.goods, (each, self.over)), (2,), (10,), 7, (1, 0), 1)
        self.check((self.goods, (self.over, each)), (2,), (10,), 3, (1, 1), -3)
        self.check((self.goods, (each, self.over)), (3,), (15,), 9, (2, 0), 0)
        self.check((self.goods, (each, self.over)), (4,), (20,), 7, (3, 1), -5)
        self.check((self.goods, (self.over, each)), (4,), (20,), 10, (1, 2), -2)

    def test_what_those_before_have_left_counts(self):
        rules = (("each", 2, 2, 1), ("over", 10, 6), ("each", 5, 5, 2), ("over", 2, 2))
        self.check((((3, 0),), rules), (4,), (12,), 2, (1, 1, 0, 1), 2)
        self.check((((3, 0),), rules), (6,), (18,), 0, (1, 1, 2, 0), 0)

    def test_rules_on_goods_and_on_sums_mixed(self):
        over, pack, each, least = (
            ("over", 12, 3), ("pack", 0, 3, 9, None), ("each", 6, 2, 2), ("from", 0, 2, 4))
        self.check((self.goods, (over, pack, each, least)), (4,), (14,), 9, (1, 1, 1, 0), -3)
        self.check((self.goods, (pack, least, over, each)), (4,), (14,), 9, (1, 0, 1, 1), -3)
        self.check((self.goods, (each, least, pack, over)), (4,), (16,), 9, (2, 1, 0, 1), -3)

    def test_a_shop_of_two_goods(self):
        self.check(PAIR, (0, 0), (0, 0), 0, (0, 0, 0), 0)
        self.check(PAIR, (1, 3), (5, 6), 8, (0, 0, 1), 2)
        self.check(PAIR, (3, 4), (12, 4), 10, (1, 1, 2), -3)
        self.check(PAIR, (4, 5), (17, 5), 13, (1, 1, 3), -4)


class Bounds(ChargeTest):
    def test_least_charge(self):
        shop = (((1, 9), (1, 9)), (("each", 2, 2, 2),))
        self.check(shop, (0, 4), (0, 4), 0, (2,), -36)

    def test_most_pieces_of_both_goods(self):
        rules = (("pack", 0, 2, 30, None), ("from", 1, 4, 9), ("each", 6, 3, None),
                 ("over", 12, 6))
        total = 24 * MILLION
        self.check((((9, 0), (9, 9)), rules), (MILLION, MILLION), (15 * MILLION, 9 * MILLION),
                   total // 2 - 6, (MILLION // 2, 1, total // 6, 1), total // 2 - 6 - 9 * MILLION)
