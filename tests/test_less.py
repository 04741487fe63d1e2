"""Faults of the kind "less": whether there is one, the first one, and boxes."""

import unittest

from sureprices.errors import NoFault
from sureprices.faults import box, first_less, has_less, is_fault

from tests.act_samples import FAR_SHOP
from tests.plain_faults import is_plain_less, plain_first_less, plain_order
from tests.samples import PAIR, SHOP, mixed_shops, shops_of_one_good


class LessTest(unittest.TestCase):
    def check_box(self, shop, fault):
        numbers = box(shop)
        self.assertIs(numbers.__class__, tuple)
        self.assertEqual(len(numbers), len(shop[0]))
        for number in numbers:
            self.assertIs(number.__class__, int)
            self.assertTrue(0 <= number <= 10 ** 5, (shop, numbers))
        if fault is not None:
            # Of the baskets in the order of the document, one within the box shows a fault, too.
            inside = [basket for basket in plain_order(len(shop[0]), sum(fault[1]))
                      if all(pieces <= number for pieces, number in zip(basket, numbers))]
            self.assertTrue(any(is_plain_less(shop, basket, good) for basket in inside
                                for good in range(len(basket))), (shop, numbers))

    def check_first(self, shop, fault):
        self.assertIs(has_less(shop), True, shop)
        self.assertEqual(first_less(shop), fault, shop)
        self.assertIs(first_less(shop).__class__, tuple)
        self.assertIs(is_fault(shop, fault), True)
        self.check_box(shop, fault)

    def check_none(self, shop):
        self.assertIs(has_less(shop), False, shop)
        with self.assertRaises(NoFault):
            first_less(shop)
        self.check_box(shop, None)

    def check(self, shop, fault):
        if fault is None:
            self.check_none(shop)
        else:
            self.check_first(shop, fault)


class Examples(LessTest):
    def test_has_less(self):
        self.assertIs(has_less(SHOP), True)

    def test_first_less(self):
        self.assertEqual(first_less(SHOP), ("less", (2,), 0))

    def test_box(self):
        self.check_box(SHOP, ("less", (2,), 0))
        self.assertGreaterEqual(box(SHOP)[0], 2)

    def test_keywords(self):
        self.assertIs(has_less(shop=SHOP), True)
        self.assertEqual(first_less(shop=SHOP), ("less", (2,), 0))
        self.assertEqual(box(shop=SHOP), box(SHOP))


class OneGood(LessTest):
    def test_no_rules(self):
        for price in range(1, 10):
            self.check_none((((price, 9),), ()))

    def test_pack(self):
        self.check_first((((5, 3),), (("pack", 0, 3, 9, None),)), ("less", (2,), 0))
        self.check_first((((5, 3),), (("pack", 0, 2, 4, 1),)), ("less", (1,), 0))
        self.check_none((((5, 3),), (("pack", 0, 2, 5, 1),)))
        self.check_none((((5, 3),), (("pack", 0, 3, 10, None),)))
        self.check_none((((1, 3),), (("pack", 0, 3, 30, 2),)))

    def test_pack_that_lowers_from_the_second_size_on(self):
        # A dear pack, which the first one hides; behind it, the cheap one is never used.
        self.check_none((((9, 0),), (("pack", 0, 2, 20, None), ("pack", 0, 2, 2, None))))
        self.check_first((((9, 0),), (("pack", 0, 3, 30, None), ("pack", 0, 2, 2, None))),
                         ("less", (1,), 0))

    def test_from(self):
        self.check_first((((5, 3),), (("from", 0, 3, 3),)), ("less", (2,), 0))
        self.check_first((((9, 3),), (("from", 0, 4, 6),)), ("less", (3,), 0))
        self.check_none((((5, 3),), (("from", 0, 2, 3),)))
        self.check_none((((8, 3),), (("from", 0, 4, 6),)))
        self.check_none((((5, 3),), (("from", 0, 2, 9),)))

    def test_rule_behind_another_one(self):
        # From two pieces on each costs 9, from three on each costs 4, which is the first rule.
        self.check_first((((5, 3),), (("from", 0, 3, 4), ("from", 0, 2, 9))), ("less", (2,), 0))
        self.check_none((((5, 3),), (("from", 0, 2, 9), ("from", 0, 3, 4))))

    def test_over(self):
        self.check_first((((1, 0),), (("over", 12, 3),)), ("less", (11,), 0))
        self.check_first((((2, 0),), (("over", 11, 3),)), ("less", (5,), 0))
        self.check_none((((1, 0),), (("over", 12, 1),)))
        self.check_none((((6, 0),), (("over", 12, 6),)))
        self.check_first((((5, 0),), (("over", 12, 6),)), ("less", (2,), 0))

    def test_each(self):
        self.check_first((((1, 0),), (("each", 6, 3, None),)), ("less", (5,), 0))
        self.check_none((((1, 0),), (("each", 2, 1, None),)))
        self.check_none((((9, 0),), (("each", 6, 6, 1),)))
        self.check_first((((5, 0),), (("each", 6, 6, 1),)), ("less", (1,), 0))
        self.check_first((((4, 0),), (("each", 5, 5, 2),)), ("less", (1,), 0))
        self.check_none((((7, 0),), (("each", 6, 4, 2),)))

    def test_same_charge_is_no_fault(self):
        self.check_none((((3, 0),), (("over", 6, 3),)))
        self.check_first((((3, 0),), (("over", 6, 4),)), ("less", (1,), 0))

    def test_several_rules_together(self):
        one, other = ("over", 11, 1), ("over", 11, 2)
        self.check_none((((2, 0),), (one,)))
        self.check_none((((2, 0),), (other,)))
        # 12 is reduced to 11, and this to 9, but 10 is not reduced.
        self.check_first((((2, 0),), (one, other)), ("less", (5,), 0))
        self.check_none((((2, 0),), (other, one)))

    def test_all_kinds_of_rules_together(self):
        rules = (("from", 0, 4, 2), ("pack", 0, 2, 7, 1), ("each", 6, 1, None), ("over", 8, 1))
        # 0, 4, 7 - 1, 11 - 1 - 1, 8 - 1
        self.check_first((((4, 0),), rules), ("less", (3,), 0))
        self.check_none((((4, 0),), rules[1:]))

    def test_rule_that_is_reached_late(self):
        # 3, 3, 3, 6, 9, and 12 - 6: the sum that the second rule sees is 6 less than the amount.
        self.check_first((((3, 0),), (("each", 4, 3, 2), ("over", 12, 6))), ("less", (5,), 0))
        # Half of the amount, rounded up, is 12 from 23 on.
        self.check_first((((1, 0),), (("each", 2, 1, None), ("over", 12, 3))), ("less", (22,), 0))
        self.check_first((((1, 0),), (("over", 12, 1), ("over", 12, 3))), ("less", (12,), 0))

    def test_far_out(self):
        self.check_first(FAR_SHOP, ("less", (32,), 0))
        self.check_first((((1, 0),), (("each", 2, 1, None), ("over", 8, 4), ("each", 6, 2, 2),
                                      ("over", 5, 1))), ("less", (30,), 0))
        self.check_first((((3, 0),), (("pack", 0, 3, 3, None), ("each", 6, 3, None),
                                      ("each", 6, 6, 2), ("over", 3, 3))), ("less", (29,), 0))


class TwoGoods(LessTest):
    def test_no_rules(self):
        self.check_none((((5, 3), (2, 1)), ()))
        self.check_none((((1, 9), (9, 0)), ()))

    def test_pair(self):
        self.check(PAIR, plain_first_less(PAIR, 30))

    def test_rule_on_one_good(self):
        self.check_first((((5, 3), (5, 3)), (("pack", 0, 3, 9, None),)), ("less", (2, 0), 0))
        self.check_first((((5, 3), (5, 3)), (("pack", 1, 3, 9, None),)), ("less", (0, 2), 1))

    def test_fewest_pieces_first(self):
        # (0, 2) is the lesser tuple, but (1, 0) has fewer pieces.
        rules = (("pack", 1, 3, 9, None), ("pack", 0, 2, 4, None))
        self.check_first((((5, 3), (5, 3)), rules), ("less", (1, 0), 0))

    def test_then_as_tuples(self):
        rules = (("pack", 0, 2, 4, None), ("pack", 1, 2, 4, None))
        self.check_first((((5, 3), (5, 3)), rules), ("less", (0, 1), 1))

    def test_then_the_lesser_good(self):
        self.check_first((((5, 3), (5, 3)), (("over", 10, 6),)), ("less", (0, 1), 0))
        self.check_first((((1, 0), (1, 0)), (("over", 12, 3),)), ("less", (0, 11), 0))
        self.check_first((((1, 0), (5, 0)), (("over", 10, 6),)), ("less", (0, 1), 1))

    def test_only_both_goods_together(self):
        # The second piece of the first good costs 1 more, but only 11 to 12 makes it cheaper.
        pack, over = ("pack", 0, 2, 6, 1), ("over", 12, 3)
        self.check_none((((5, 0),), (pack, over)))
        self.check_none((((6, 0),), (over,)))
        self.check_first((((5, 0), (6, 0)), (pack, over)), ("less", (1, 1), 0))

    def test_far_out(self):
        goods = FAR_SHOP[0] * 2
        self.check_first((goods, FAR_SHOP[1]), ("less", (0, 32), 0))
        self.check_first((((1, 0), (2, 0)), FAR_SHOP[1]), ("less", (0, 16), 0))

    def test_none_from_a_hundred_pieces_on(self):
        # No first fault can lie there: the charge grows evenly from a sum of 72 on at the latest,
        # pieces cost at least 1 each, and a cycle has at most 18 of them.
        late = (("each", 2, 1, None),) + (("over", 12, 1),) * 3
        for shop in ((((1, 0),), late), (((1, 0), (1, 0)), late), (((1, 0), (9, 0)), late)):
            self.check(shop, plain_first_less(shop, 115))


class PlainSearch(LessTest):
    """Against going through all baskets up to a number of pieces."""

    def test_one_good(self):
        for shop in shops_of_one_good():
            self.check(shop, plain_first_less(shop, 45))

    def test_one_good_far(self):
        for shop in [shop for shop in mixed_shops(400) if len(shop[0]) == 1][:60]:
            self.check(shop, plain_first_less(shop, 130))

    def test_mixed_shops(self):
        for shop in mixed_shops(1200):
            self.check(shop, plain_first_less(shop, 20))

    def test_mixed_shops_far(self):
        for shop in list(mixed_shops(120))[-60:]:
            self.check(shop, plain_first_less(shop, 60))

    def test_low_prices_with_rules_on_sums(self):
        for shop in mixed_shops(1500):
            rules = tuple(rule for rule in shop[1] if rule[0] in ("over", "each"))
            if len(rules) > 1:
                self.check((((1, 0),), rules), plain_first_less((((1, 0),), rules), 110))
