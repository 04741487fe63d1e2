"""The program against the plain count, over many shops and baskets."""

import unittest

from sureprices.charges import amounts, charge, gain, uses

from tests.plain import plain_amounts, plain_charge, plain_gain, plain_uses
from tests.samples import PAIR, SHOP, mixed_shops, shops_of_one_good, small_baskets


class PlainCount(unittest.TestCase):
    def check(self, shop, basket):
        self.assertEqual(amounts(shop, basket), plain_amounts(shop, basket), (shop, basket))
        self.assertEqual(charge(shop, basket), plain_charge(shop, basket), (shop, basket))
        self.assertEqual(uses(shop, basket), plain_uses(shop, basket), (shop, basket))
        self.assertEqual(gain(shop, basket), plain_gain(shop, basket), (shop, basket))

    def test_named_shops(self):
        for shop in (SHOP, PAIR):
            for basket in small_baskets(shop, 20):
                self.check(shop, basket)

    def test_one_good(self):
        for shop in shops_of_one_good():
            for basket in small_baskets(shop, 14):
                self.check(shop, basket)

    def test_mixed_shops(self):
        for shop in mixed_shops(1500):
            for basket in small_baskets(shop, 6):
                self.check(shop, basket)

    def test_greater_baskets(self):
        for shop in mixed_shops(200):
            for pieces in (17, 60):
                self.check(shop, (pieces,) * len(shop[0]))
                self.check(shop, (0,) * (len(shop[0]) - 1) + (pieces,))
