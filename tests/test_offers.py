"""Offers of a shop, and the price of bought acts."""

import unittest

from sureprices.cures import are_offers, price_of

from tests.act_samples import FULL, FULL_ACTS, OFF, WRONG_OFFERS, new_source, some_offers
from tests.plain_faults import plain_bought
from tests.samples import PAIR, SHOP, mixed_shops

NO_RULES = (((5, 3), (2, 1)), ())


class Offers(unittest.TestCase):
    def are_some(self, shop, value):
        self.assertIs(are_offers(shop, value), True, value)

    def are_none(self, shop, value):
        self.assertIs(are_offers(shop, value), False)

    def test_example(self):
        self.are_some(SHOP, OFF)
        self.assertIs(are_offers(shop=SHOP, value=OFF), True)

    def test_no_offers(self):
        self.are_some(SHOP, ())
        self.are_some(NO_RULES, ())

    def test_six_offers_and_seven(self):
        offers = tuple((act, 9) for act in FULL_ACTS)
        self.are_some(FULL, offers[:6])
        self.are_some(FULL, offers[-6:])
        self.are_none(FULL, offers[:7])
        self.are_none(FULL, offers[-7:])
        self.are_none(FULL, offers)

    def test_prices(self):
        for price in range(1, 10):
            self.are_some(SHOP, ((("off", 0), price),))
        for price in (0, 10, -1, 99, 10 ** 5000, True, False, None, "1", (1,), [1]):
            self.are_none(SHOP, ((("off", 0), price),))
            self.are_none(SHOP, (OFF[0], (("off", 0), price)))

    def test_same_act_twice(self):
        self.are_none(SHOP, ((("off", 0), 3), (("off", 0), 4)))
        self.are_none(SHOP, ((("off", 0), 4), (("off", 0), 3)))
        self.are_none(SHOP, ((("off", 0), 4), (("off", 0), 4)))
        self.are_none(SHOP, ((("most", 0, 1), 1), (("off", 0), 3), (("off", 0), 4)))

    def test_sequence(self):
        self.are_none(SHOP, OFF[::-1])
        self.are_none(SHOP, (OFF[1], OFF[0], OFF[2]))
        self.are_none(SHOP, (OFF[0], OFF[2], OFF[1]))
        self.are_some(SHOP, ((("most", 0, 1), 9), (("most", 0, 2), 1), (("off", 0), 5)))
        self.are_none(SHOP, ((("most", 0, 2), 1), (("most", 0, 1), 9), (("off", 0), 5)))

    def test_acts_of_the_shop(self):
        self.are_none(SHOP, ((("off", 2), 1),))
        self.are_none(SHOP, ((("most", 1, 1), 1),))
        self.are_none(PAIR, ((("most", 1, 1), 1),))
        self.are_some(PAIR, ((("most", 2, 1), 1), (("off", 2), 1)))
        self.are_none(NO_RULES, ((("off", 0), 1),))

    def test_wrong_values(self):
        for value in WRONG_OFFERS:
            self.are_none(SHOP, value)


class Prices(unittest.TestCase):
    def test_example(self):
        self.assertEqual(price_of(SHOP, OFF, (("most", 0, 1), ("off", 1))), 5)
        self.assertEqual(price_of(shop=SHOP, offers=OFF, acts=()), 0)

    def test_prices(self):
        self.assertEqual(price_of(SHOP, (), ()), 0)
        self.assertEqual(price_of(SHOP, OFF, ()), 0)
        self.assertEqual(price_of(SHOP, OFF, (("most", 0, 1),)), 2)
        self.assertEqual(price_of(SHOP, OFF, (("off", 0),)), 4)
        self.assertEqual(price_of(SHOP, OFF, (("off", 1),)), 3)
        self.assertEqual(price_of(SHOP, OFF, (("off", 0), ("off", 1))), 7)
        self.assertEqual(price_of(SHOP, OFF, (("most", 0, 1), ("off", 0), ("off", 1))), 9)

    def test_highest_and_lowest(self):
        for price in (1, 9):
            offers = tuple((act, price) for act in FULL_ACTS[-6:])
            self.assertEqual(price_of(FULL, offers, FULL_ACTS[-6:]), 6 * price)

    def test_all_bought_acts(self):
        source = new_source()
        for shop in mixed_shops(100):
            offers = some_offers(source, shop, 6)
            for acts, price in plain_bought(offers):
                self.assertEqual(price_of(shop, offers, acts), price)
