import copy
import unittest

from sureprices.errors import InvalidShop
from sureprices.shops import is_basket

from tests.samples import PAIR, SHOP, WRONG_BASKETS, WRONG_SHOPS


class Baskets(unittest.TestCase):
    def is_one(self, shop, value):
        self.assertIs(is_basket(shop, value), True)

    def is_none(self, shop, value):
        self.assertIs(is_basket(shop, value), False)

    def test_example(self):
        self.is_none(SHOP, (4, 0))

    def test_ordinary_baskets(self):
        for pieces in (0, 1, 4, 100, 999999):
            self.is_one(SHOP, (pieces,))
            self.is_one(PAIR, (pieces, 3))
            self.is_one(PAIR, (3, pieces))

    def test_keywords(self):
        self.assertIs(is_basket(shop=SHOP, value=(4,)), True)

    def test_bounds(self):
        most = 10 ** 6
        self.is_one(SHOP, (0,))
        self.is_one(SHOP, (most,))
        self.is_none(SHOP, (-1,))
        self.is_none(SHOP, (most + 1,))
        for pieces in (0, most):
            self.is_one(PAIR, (pieces, 0))
            self.is_one(PAIR, (most, pieces))
        for pieces in (-1, most + 1):
            self.is_none(PAIR, (pieces, 0))
            self.is_none(PAIR, (0, pieces))
            self.is_none(PAIR, (pieces, pieces))

    def test_lengths(self):
        self.is_none(SHOP, ())
        self.is_one(SHOP, (1,))
        self.is_none(SHOP, (1, 1))
        self.is_none(SHOP, (1, 1, 1))
        self.is_none(PAIR, ())
        self.is_none(PAIR, (1,))
        self.is_one(PAIR, (1, 1))
        self.is_none(PAIR, (1, 1, 1))

    def test_wrong_baskets(self):
        for value in WRONG_BASKETS:
            self.is_none(SHOP, value)

    def test_wrong_pieces(self):
        for value in WRONG_BASKETS:
            if value.__class__ is not int:
                self.is_none(SHOP, (value,))
                self.is_none(PAIR, (value, 0))
                self.is_none(PAIR, (0, value))

    def test_true_and_false(self):
        for flag in (True, False):
            self.is_none(SHOP, (flag,))
            self.is_none(PAIR, (flag, 0))
            self.is_none(PAIR, (1, flag))

    def test_lists(self):
        self.is_none(SHOP, [4])
        self.is_none(PAIR, [4, 0])
        self.is_none(PAIR, ([4], [0]))

    def test_wrong_shops(self):
        for shop in WRONG_SHOPS:
            with self.assertRaises(InvalidShop):
                is_basket(shop, (4,))

    def test_both_wrong(self):
        for value in WRONG_BASKETS:
            with self.assertRaises(InvalidShop):
                is_basket(None, value)
        for value in WRONG_SHOPS:
            with self.assertRaises(InvalidShop):
                is_basket(value, value)

    def test_not_modified(self):
        shop = [[[5, 3]], [["over", 12, 3]]]
        basket = [[4], {0: [1]}]
        before = copy.deepcopy((shop, basket))
        self.is_none(SHOP, basket)
        with self.assertRaises(InvalidShop):
            is_basket(shop, basket)
        self.assertEqual((shop, basket), before)
