"""Papers that are made: when there is one, and that each is one."""

import unittest

from sureprices.cures import least_price
from sureprices.papers import is_paper, paper

from tests.act_samples import (
    FULL, FULL_ACTS, KINDS, OFF, SINKING_SHOP, new_source, some_offers)
from tests.plain_faults import plain_cures
from tests.plain_papers import plain_is_paper
from tests.samples import PAIR, SHOP, mixed_shops

FINE = (((5, 3),), ())


class PaperTest(unittest.TestCase):
    def check(self, shop, offers, kinds, price, least):
        """Check paper, where least is the least price of a cure."""
        found = paper(shop, offers, kinds, price)
        if least is not None and least < price:
            self.assertIsNone(found, (shop, offers, kinds, price))
            return
        self.assertIs(found.__class__, list)
        self.assertEqual(found, sorted(found))
        self.assertTrue(plain_is_paper(shop, offers, kinds, price, found), found)
        self.assertIs(is_paper(shop, offers, kinds, price, found), True)

    def check_prices(self, shop, offers, kinds, least):
        around = (0, 1, 2, 98, 99)
        if least is not None:
            around += (max(0, least - 1), least, least + 1)
        for price in around:
            self.check(shop, offers, kinds, price, least)


class Examples(PaperTest):
    def test_paper(self):
        self.assertIsNone(paper(SHOP, OFF, ("loss",), 4))
        self.assertIsNone(paper(shop=SHOP, offers=OFF, kinds=("loss",), price=4))

    def test_shared_shop(self):
        for kinds, least in ((("less",), 4), (("loss",), 3), (("less", "loss"), 4)):
            for price in range(0, least + 1):
                self.check(SHOP, OFF, kinds, price, least)
                self.assertIsNotNone(paper(SHOP, OFF, kinds, price))
            for price in range(least + 1, 100):
                self.assertIsNone(paper(SHOP, OFF, kinds, price))

    def test_the_only_paper(self):
        # The first fault under no acts is touched by any offered act on the rule.
        shop = (((2, 0),), (("over", 4, 3),))
        offers = ((("off", 0), 5),)
        for price in range(1, 6):
            entries = paper(shop, offers, ("less",), price)
            self.assertEqual([acts for acts, _ in entries], [(), (("off", 0),)])
            self.assertEqual(entries[1][1], ("dear",))
            self.assertEqual(entries[0][1][0], "less")


class Prices(PaperTest):
    def test_nothing_is_less_than_nothing(self):
        for shop in (SHOP, FINE, PAIR):
            for kinds in KINDS:
                self.assertEqual(paper(shop, (), kinds, 0), [((), ("dear",))])

    def test_all_prices_without_a_cure(self):
        for kinds in KINDS:
            for price in range(100):
                self.check(SHOP, OFF[:1], kinds, price, None)

    def test_a_shop_that_needs_nothing(self):
        for kinds in KINDS:
            for offers in ((), ()):
                self.check_prices(FINE, offers, kinds, 0)
        shop = (((5, 3),), (("from", 0, 2, 5),))
        for kinds in KINDS:
            self.check_prices(shop, ((("off", 0), 1),), kinds, 0)

    def test_no_offers(self):
        for kinds in KINDS:
            self.check_prices(SHOP, (), kinds, None)

    def test_a_loss_far_out(self):
        offers = ((("most", 1, 1), 2), (("most", 1, 2), 1), (("off", 0), 9), (("off", 1), 3))
        self.assertEqual(least_price(SINKING_SHOP, offers, ("loss",)), 1)
        for price in (0, 1, 2):
            self.check(SINKING_SHOP, offers, ("loss",), price, 1)


class SixOffers(PaperTest):
    def test_full_shop(self):
        for acts in (FULL_ACTS[:6], FULL_ACTS[5:], FULL_ACTS[::2]):
            offers = tuple((act, 1 + place) for place, act in enumerate(acts))
            for kinds in KINDS:
                least = plain_cures(FULL, offers, kinds, 40)[0]
                self.check_prices(FULL, offers, kinds, least)

    def test_all_six_are_needed_for_nothing(self):
        offers = tuple((act, 9) for act in FULL_ACTS[:6])
        for kinds in KINDS:
            self.assertIsNone(least_price(FULL, offers, kinds))
            for price in (1, 9, 10, 54, 55, 99):
                self.check(FULL, offers, kinds, price, None)


class NewFaults(PaperTest):
    def test_an_act_makes_a_fault(self):
        # Without the first rule, three pieces of the first good cost less than two.
        shop = (((5, 0), (5, 0)), (("from", 0, 2, 5), ("pack", 0, 3, 9, None),
                                   ("pack", 1, 3, 9, None)))
        offers = ((("off", 0), 1), (("off", 1), 1), (("off", 2), 3))
        self.assertEqual(least_price(shop, offers, ("less",)), 3)
        for price in range(6):
            self.check(shop, offers, ("less",), price, 3)
        self.check(shop, offers[:1], ("less",), 99, None)

    def test_an_act_opens_a_way_to_a_fault_that_another_one_mends(self):
        shop = (((5, 0),), (("over", 10, 6), ("pack", 0, 3, 9, 1), ("from", 0, 2, 4)))
        offers = ((("off", 0), 2), (("off", 1), 2), (("off", 2), 2))
        for kinds in KINDS:
            self.check_prices(shop, offers, kinds, plain_cures(shop, offers, kinds, 60)[0])


class AgainstAllBoughtActs(PaperTest):
    def test_mixed_shops(self):
        source = new_source()
        for shop in mixed_shops(60):
            offers = some_offers(source, shop, 4)
            for kinds in KINDS:
                least = plain_cures(shop, offers, kinds, 20)[0]
                self.assertEqual(least_price(shop, offers, kinds), least)
                self.check_prices(shop, offers, kinds, least)

    def test_six_offers(self):
        source = new_source()
        for shop in mixed_shops(120):
            offers = some_offers(source, shop, 6)
            for kinds in KINDS:
                self.check_prices(shop, offers, kinds, least_price(shop, offers, kinds))
