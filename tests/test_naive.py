"""Going through all baskets and all bought acts, beside the functions that decide for all."""

import unittest

from sureprices.cures import least_price
from sureprices.errors import InvalidKinds, InvalidNumber, InvalidOffers, InvalidShop, NoFault
from sureprices.faults import first_less
from sureprices.naive import naive_least_price, naive_less

from tests.act_samples import (
    FAR_SHOP, FULL, FULL_ACTS, KINDS, OFF, SINKING_SHOP, WRONG_NUMBERS, new_source, some_offers)
from tests.plain_faults import plain_cures, plain_first_less
from tests.samples import LATE_SHOP, PAIR, SHOP, mixed_shops, shops_of_one_good

FINE = (((5, 3),), ())


def decided(shop):
    try:
        return first_less(shop)
    except NoFault:
        return None


class Less(unittest.TestCase):
    def check(self, shop, most, fault):
        self.assertEqual(naive_less(shop, most), fault, (shop, most))

    def test_examples(self):
        self.assertIsNone(naive_less(SHOP, 1))
        self.assertEqual(naive_less(shop=SHOP, most=2), ("less", (2,), 0))

    def test_bounds(self):
        for most in (0, 1, 39, 40):
            self.check(FINE, most, None)
        for most in (2, 3, 39, 40):
            self.check(SHOP, most, ("less", (2,), 0))
        self.check(SHOP, 0, None)
        # The empty basket is never charged more than another one.
        self.check((((2, 0),), (("over", 2, 2),)), 0, None)

    def test_just_at_the_most(self):
        self.check(FAR_SHOP, 31, None)
        self.check(FAR_SHOP, 32, ("less", (32,), 0))
        self.check(FAR_SHOP, 40, ("less", (32,), 0))

    def test_pieces_of_both_goods_are_counted(self):
        # 6 and 7 are charged for two pieces, of which only 7 and 4 more reach 11.
        shop = (((4, 0), (3, 0)), (("over", 11, 6),))
        self.check(shop, 2, ("less", (1, 1), 0))
        self.check(shop, 1, None)

    def test_first_ones(self):
        shop = (((5, 3), (5, 3)), (("pack", 0, 2, 4, None), ("pack", 1, 2, 4, None)))
        self.check(shop, 1, ("less", (0, 1), 1))
        shop = (((5, 3), (5, 3)), (("over", 10, 6),))
        self.check(shop, 1, ("less", (0, 1), 0))

    def test_against_first_less(self):
        for shop in list(shops_of_one_good())[::5] + list(mixed_shops(150)):
            fault = decided(shop)
            if fault is None:
                self.check(shop, 20, None)
                continue
            pieces = sum(fault[1])
            self.check(shop, min(pieces, 40), fault if pieces <= 40 else None)
            if pieces > 0:
                self.check(shop, min(pieces - 1, 40), None)
            self.check(shop, 40, fault if pieces <= 40 else None)

    def test_against_the_count(self):
        for shop in mixed_shops(80):
            for most in (0, 1, 2, 5, 9):
                self.check(shop, most, plain_first_less(shop, most))

    def test_forty_pieces_of_two_goods(self):
        goods, rules = LATE_SHOP
        self.check((goods + ((9, 0),), ()), 40, None)
        self.check((goods * 2, rules), 40, decided((goods * 2, rules)))


class LeastPrice(unittest.TestCase):
    def test_examples(self):
        self.assertEqual(naive_least_price(SHOP, OFF, ("less",)), 4)
        self.assertEqual(naive_least_price(shop=SHOP, offers=OFF, kinds=("loss",)), 3)

    def test_without_a_cure(self):
        for kinds in KINDS:
            self.assertIsNone(naive_least_price(SHOP, (), kinds))
            self.assertIsNone(naive_least_price(SHOP, OFF[:1], kinds))

    def test_nothing_needed(self):
        for kinds in KINDS:
            self.assertEqual(naive_least_price(FINE, (), kinds), 0)

    def test_six_offers(self):
        for acts in (FULL_ACTS[:6], FULL_ACTS[5:], FULL_ACTS[::2]):
            offers = tuple((act, 9 - place) for place, act in enumerate(acts))
            for kinds in KINDS:
                self.assertEqual(naive_least_price(FULL, offers, kinds),
                                 plain_cures(FULL, offers, kinds, 40)[0])

    def test_a_loss_far_out(self):
        offers = ((("most", 1, 1), 2), (("most", 1, 2), 1))
        self.assertEqual(naive_least_price(SINKING_SHOP, offers, ("loss",)), 1)

    def test_against_least_price(self):
        source = new_source()
        for shop in mixed_shops(120):
            offers = some_offers(source, shop, 6)
            for kinds in KINDS:
                self.assertEqual(naive_least_price(shop, offers, kinds),
                                 least_price(shop, offers, kinds), (shop, offers, kinds))

    def test_against_the_count(self):
        source = new_source()
        for shop in mixed_shops(40):
            offers = some_offers(source, shop, 4)
            for kinds in KINDS:
                self.assertEqual(naive_least_price(shop, offers, kinds),
                                 plain_cures(shop, offers, kinds, 20)[0])


class Refused(unittest.TestCase):
    def check(self, error, function, *arguments):
        with self.assertRaises(error) as caught:
            function(*arguments)
        self.assertIs(caught.exception.__class__, error)

    def test_most(self):
        for most in WRONG_NUMBERS + (41, 42, -1, True, False, None, "1", (1,)):
            self.check(InvalidNumber, naive_less, SHOP, most)
            self.check(InvalidShop, naive_less, None, most)

    def test_least_price(self):
        self.check(InvalidShop, naive_least_price, None, None, None)
        self.check(InvalidOffers, naive_least_price, PAIR, None, None)
        self.check(InvalidKinds, naive_least_price, PAIR, (), None)
        self.check(InvalidOffers, naive_least_price, FULL, tuple((act, 1) for act in FULL_ACTS[:7]),
                   ("less",))
