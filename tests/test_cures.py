"""Cures: which bought acts are one, the least price, and the acts in all of the cheapest."""

import unittest

from sureprices.cures import all_cheapest, is_cure, least_price, sure_acts

from tests.act_samples import (
    FULL, FULL_ACTS, KINDS, OFF, SINKING_SHOP, new_source, some_offers)
from tests.plain_faults import plain_bought, plain_cures, plain_is_cure, plain_sure
from tests.samples import SHOP, mixed_shops

BOTH = ("less", "loss")


class CureTest(unittest.TestCase):
    def check(self, shop, offers, kinds, price, cures, sure):
        self.assertEqual(least_price(shop, offers, kinds), price, (shop, offers, kinds))
        self.assertEqual(all_cheapest(shop, offers, kinds), cures, (shop, offers, kinds))
        self.assertEqual(sure_acts(shop, offers, kinds), sure, (shop, offers, kinds))
        for acts in cures:
            self.assertIs(is_cure(shop, offers, kinds, acts), True)


class Examples(CureTest):
    def test_is_cure(self):
        self.assertIs(is_cure(SHOP, OFF, ("loss",), (("off", 1),)), True)

    def test_least_price(self):
        self.assertEqual(least_price(SHOP, OFF, ("less", "loss")), 4)
        self.assertEqual(least_price(SHOP, OFF, ("less",)), 4)

    def test_all_cheapest(self):
        self.assertEqual(all_cheapest(SHOP, OFF, ("loss",)), [(("off", 1),)])

    def test_sure_acts(self):
        self.assertEqual(sure_acts(SHOP, OFF, ("less",)), [("off", 0)])

    def test_keywords(self):
        self.assertIs(is_cure(shop=SHOP, offers=OFF, kinds=("loss",), acts=(("off", 1),)), True)
        self.assertEqual(least_price(shop=SHOP, offers=OFF, kinds=("loss",)), 3)
        self.assertEqual(all_cheapest(shop=SHOP, offers=OFF, kinds=("loss",)), [(("off", 1),)])
        self.assertEqual(sure_acts(shop=SHOP, offers=OFF, kinds=("loss",)), [("off", 1)])


class Kinds(CureTest):
    def test_each_kind(self):
        self.check(SHOP, OFF, ("less",), 4, [(("off", 0),)], [("off", 0)])
        self.check(SHOP, OFF, ("loss",), 3, [(("off", 1),)], [("off", 1)])
        self.check(SHOP, OFF, BOTH, 4, [(("off", 0),)], [("off", 0)])

    def test_is_cure(self):
        for acts, less, loss in (
                ((), False, False), ((("most", 0, 1),), False, False),
                ((("off", 0),), True, True), ((("off", 1),), False, True),
                ((("most", 0, 1), ("off", 1)), False, True),
                ((("most", 0, 1), ("off", 0), ("off", 1)), True, True)):
            self.assertIs(is_cure(SHOP, OFF, ("less",), acts), less)
            self.assertIs(is_cure(SHOP, OFF, ("loss",), acts), loss)
            self.assertIs(is_cure(SHOP, OFF, BOTH, acts), less and loss)

    def test_both_kinds_need_more_than_each(self):
        # 5, 10, 9 of the one good; two of the other one are charged 14 and cost 16.
        shop = (((5, 0), (9, 8)), (("pack", 0, 3, 9, None), ("pack", 1, 2, 14, None)))
        offers = ((("off", 0), 5), (("off", 1), 6))
        self.check(shop, offers, ("less",), 5, [(("off", 0),)], [("off", 0)])
        self.check(shop, offers, ("loss",), 6, [(("off", 1),)], [("off", 1)])
        self.check(shop, offers, BOTH, 11, [(("off", 0), ("off", 1))], [("off", 0), ("off", 1)])


class NoCure(CureTest):
    def test_no_offers(self):
        for kinds in KINDS:
            self.check(SHOP, (), kinds, None, [], [])

    def test_offers_that_do_not_help(self):
        for kinds in KINDS:
            self.check(SHOP, OFF[:1], kinds, None, [], [])
        self.check(SHOP, (OFF[2],), ("less",), None, [], [])
        self.check(SHOP, (OFF[2],), BOTH, None, [], [])
        self.check(SHOP, (OFF[2],), ("loss",), 3, [(("off", 1),)], [("off", 1)])

    def test_costs_above_the_price(self):
        shop = (((2, 3),), (("over", 12, 3),))
        offers = ((("off", 0), 1),)
        self.check(shop, offers, ("loss",), None, [], [])
        self.check(shop, offers, BOTH, None, [], [])
        self.check(shop, offers, ("less",), 1, [(("off", 0),)], [("off", 0)])


class NothingNeeded(CureTest):
    def test_no_rules(self):
        for kinds in KINDS:
            self.check((((5, 3),), ()), (), kinds, 0, [()], [])
            self.check((((5, 3), (2, 2)), ()), (), kinds, 0, [()], [])

    def test_harmless_rules(self):
        shop = (((5, 3),), (("pack", 0, 3, 10, None), ("from", 0, 2, 4)))
        offers = ((("most", 0, 1), 1), (("off", 0), 1), (("off", 1), 1))
        for kinds in KINDS:
            self.check(shop, offers, kinds, 0, [()], [])

    def test_acts_that_make_faults(self):
        shop = (((5, 3),), (("from", 0, 2, 5), ("pack", 0, 2, 4, None)))
        offers = ((("off", 0), 1), (("off", 1), 1))
        for kinds in KINDS:
            self.check(shop, offers, kinds, 0, [()], [])
            self.assertIs(is_cure(shop, offers, kinds, (("off", 0),)), False)
            self.assertIs(is_cure(shop, offers, kinds, (("off", 1),)), True)
            self.assertIs(is_cure(shop, offers, kinds, (("off", 0), ("off", 1))), True)

    def test_more_acts_than_one_that_is_needed(self):
        # Without the pack, "from" is used, and with it three pieces cost less than two.
        shop = (((5, 3),), (("pack", 0, 2, 4, None), ("from", 0, 3, 3)))
        offers = ((("off", 0), 2), (("off", 1), 7))
        self.assertIs(is_cure(shop, offers, ("less",), (("off", 0),)), False)
        self.check(shop, offers, ("less",), 9, [(("off", 0), ("off", 1))],
                   [("off", 0), ("off", 1)])


class SeveralCures(CureTest):
    # The pack always makes two pieces cheaper than one; the two sums do it only together.
    SHOP = (((2, 0), (9, 0)), (("pack", 1, 2, 2, None), ("over", 11, 1), ("over", 11, 2)))

    def test_two_of_three(self):
        offers = ((("off", 0), 1), (("off", 1), 2), (("off", 2), 2))
        self.check(self.SHOP, offers, ("less",), 3,
                   [(("off", 0), ("off", 1)), (("off", 0), ("off", 2))], [("off", 0)])

    def test_unlike_prices(self):
        offers = ((("off", 0), 1), (("off", 1), 3), (("off", 2), 2))
        self.check(self.SHOP, offers, ("less",), 3, [(("off", 0), ("off", 2))],
                   [("off", 0), ("off", 2)])

    def test_no_sure_act(self):
        shop = (self.SHOP[0][:1], self.SHOP[1][1:])
        offers = ((("off", 0), 9), (("off", 1), 9))
        self.check(shop, offers, ("less",), 9, [(("off", 0),), (("off", 1),)], [])

    # The amounts are 0, 5, 6, 11, 12, 17; each of the sums takes away more than 1. Without the
    # pack all steps are 5.
    STEPS = (((5, 0),), (("pack", 0, 2, 6, 2), ("over", 12, 3), ("over", 6, 2)))

    def test_more_acts_for_less(self):
        offers = ((("most", 0, 1), 1), (("off", 0), 9), (("off", 1), 3), (("off", 2), 4))
        self.check(self.STEPS, offers, ("less",), 5, [(("most", 0, 1), ("off", 2))],
                   [("most", 0, 1), ("off", 2)])
        self.check(self.STEPS, offers[1:], ("less",), 7, [(("off", 1), ("off", 2))],
                   [("off", 1), ("off", 2)])

    def test_same_price_for_one_act_and_two(self):
        offers = ((("off", 0), 7), (("off", 1), 3), (("off", 2), 4))
        self.check(self.STEPS, offers, ("less",), 7, [(("off", 0),), (("off", 1), ("off", 2))], [])


class SixOffers(CureTest):
    def test_six(self):
        for acts in (FULL_ACTS[:6], FULL_ACTS[-6:], FULL_ACTS[3:9]):
            offers = tuple((act, number + 1) for number, act in enumerate(acts))
            for kinds in KINDS:
                price, cures = plain_cures(FULL, offers, kinds, 60)
                self.check(FULL, offers, kinds, price, cures, plain_sure(offers, cures))

    def test_far_loss(self):
        # Only great baskets lose; a most for the rule on sums is enough, none for the pack is.
        offers = ((("most", 0, 1), 1), (("most", 1, 2), 5), (("off", 0), 1), (("off", 1), 4))
        self.check(SINKING_SHOP, offers, ("loss",), 4, [(("off", 1),)], [("off", 1)])
        self.assertIs(is_cure(SINKING_SHOP, offers, ("loss",), (("most", 1, 2),)), True)
        self.assertIs(is_cure(SINKING_SHOP, offers, ("loss",), (("most", 0, 1),)), False)


class PlainSearch(CureTest):
    """Against trying all bought acts, each by going through baskets."""

    def test_mixed_shops(self):
        source = new_source()
        for goods, rules in mixed_shops(150):
            for shop in ((goods, rules), (tuple((price, 1) for price, _ in goods), rules)):
                offers = some_offers(source, shop, 4)
                for kinds in KINDS:
                    price, cures = plain_cures(shop, offers, kinds, 16)
                    self.check(shop, offers, kinds, price, cures, plain_sure(offers, cures))

    def test_is_cure(self):
        source = new_source()
        for goods, rules in mixed_shops(60):
            shop = (tuple((price, 1) for price, _ in goods), rules)
            offers = some_offers(source, shop, 3)
            for kinds in KINDS:
                for acts, _ in plain_bought(offers):
                    self.assertIs(is_cure(shop, offers, kinds, acts),
                                  plain_is_cure(shop, kinds, acts, 16))
