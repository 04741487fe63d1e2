"""Which exceptions the functions on charges raise, and that they modify no argument."""

import copy
import unittest

from sureprices.charges import amounts, charge, gain, uses
from sureprices.errors import InvalidBasket, InvalidShop

from tests.samples import PAIR, SHOP, WRONG_BASKETS, WRONG_SHOPS

FUNCTIONS = (amounts, charge, uses, gain)


class Raising(unittest.TestCase):
    def test_wrong_shop(self):
        for function in FUNCTIONS:
            for shop in WRONG_SHOPS:
                with self.assertRaises(InvalidShop):
                    function(shop, (4,))

    def test_shops_out_of_bounds(self):
        goods = ((5, 3),)
        wrong = ((((10, 3),), ()), (((5, 10),), ()), (goods, (("pack", 0, 3, 2, None),)),
                 (goods, (("pack", 1, 3, 9, None),)), (goods, (("from", 0, 5, 1),)),
                 (goods, (("over", 5, 6),)), (goods, (("each", 5, 3, None),)),
                 (goods, (("each", 6, 3, None),) * 2), (goods, (("over", 12, 3),) * 5))
        for function in FUNCTIONS:
            for shop in wrong:
                with self.assertRaises(InvalidShop):
                    function(shop, (4,))

    def test_wrong_basket(self):
        for function in FUNCTIONS:
            for basket in WRONG_BASKETS:
                with self.assertRaises(InvalidBasket):
                    function(SHOP, basket)

    def test_baskets_out_of_bounds(self):
        most = 10 ** 6
        for function in FUNCTIONS:
            for basket in ((-1, 0), (0, -1), (most + 1, 0), (0, most + 1), (0,), (0, 0, 0),
                           (True, 0), (0, False), [0, 0], ()):
                with self.assertRaises(InvalidBasket):
                    function(PAIR, basket)
            function(PAIR, (most, most))
            function(PAIR, (0, 0))

    def test_both_wrong(self):
        for function in FUNCTIONS:
            for basket in WRONG_BASKETS:
                with self.assertRaises(InvalidShop):
                    function(None, basket)
                with self.assertRaises(InvalidShop):
                    function(((), ()), basket)
            for shop in WRONG_SHOPS:
                with self.assertRaises(InvalidShop):
                    function(shop, None)

    def test_not_modified(self):
        shop = [[[5, 3]], [["over", 12, 3]]]
        basket = [4, [{0: [1]}]]
        before = copy.deepcopy((shop, basket))
        for function in FUNCTIONS:
            with self.assertRaises(InvalidShop):
                function(shop, basket)
            with self.assertRaises(InvalidBasket):
                function(SHOP, basket)
        self.assertEqual((shop, basket), before)

    def test_right_arguments_not_modified(self):
        shop = copy.deepcopy(PAIR)
        basket = (4, 5)
        for function in FUNCTIONS:
            first = function(shop, basket)
            self.assertEqual(function(shop, basket), first)
        self.assertEqual((shop, basket), (PAIR, (4, 5)))
