"""Which values are faults of a shop, of both kinds and in baskets of any size."""

import unittest

from sureprices.faults import is_fault

from tests.plain import plain_gain
from tests.plain_faults import is_plain_less
from tests.samples import ODD_OBJECTS, PAIR, SHOP, Agreeable, Touchy, mixed_shops, nested
from tests.samples import small_baskets

MILLION = 10 ** 6


class FaultTest(unittest.TestCase):
    def is_one(self, shop, value):
        self.assertIs(is_fault(shop, value), True, value)

    def is_none(self, shop, value):
        self.assertIs(is_fault(shop, value), False)


class Faults(FaultTest):
    def test_example(self):
        self.is_none(SHOP, ("loss", (3,)))
        self.assertIs(is_fault(shop=SHOP, value=("loss", (4,))), True)

    def test_less(self):
        # 0, 5, 10, 9, 11, 16, 15, 20, 25, 24
        self.is_one(SHOP, ("less", (2,), 0))
        self.is_one(SHOP, ("less", (5,), 0))
        self.is_one(SHOP, ("less", (8,), 0))
        for pieces in (0, 1, 3, 4, 6, 7):
            self.is_none(SHOP, ("less", (pieces,), 0))

    def test_loss(self):
        # Less 3 each: 0, 2, 4, 0, -1, 1, -3, -1, 1, -3
        for pieces in (4, 6, 7, 9):
            self.is_one(SHOP, ("loss", (pieces,)))
        for pieces in (0, 1, 2, 3, 5, 8):
            self.is_none(SHOP, ("loss", (pieces,)))

    def test_same_charge(self):
        self.is_none((((3, 3),), (("over", 6, 3),)), ("less", (1,), 0))
        self.is_none((((3, 3),), ()), ("loss", (7,)))

    def test_the_good_counts(self):
        shop = (((5, 3), (5, 3)), (("pack", 1, 3, 9, None),))
        self.is_one(shop, ("less", (0, 2), 1))
        self.is_none(shop, ("less", (0, 2), 0))
        self.is_none(shop, ("less", (2, 0), 0))
        self.is_none(shop, ("less", (2, 0), 1))

    def test_against_the_plain_count(self):
        for shop in mixed_shops(150):
            for basket in small_baskets(shop, 5):
                self.assertEqual(is_fault(shop, ("loss", basket)), plain_gain(shop, basket) < 0)
                for good in range(len(basket)):
                    self.assertEqual(is_fault(shop, ("less", basket, good)),
                                     is_plain_less(shop, basket, good))


class AnySize(FaultTest):
    def test_less(self):
        # Two of three pieces of a pack: the third one makes them cheaper.
        for pieces in (101, 999998, 3 * MILLION + 2, 3 * 10 ** 400 + 2):
            self.is_one(SHOP, ("less", (pieces,), 0))
            self.is_none(SHOP, ("less", (pieces - 1,), 0))
            self.is_none(SHOP, ("less", (pieces + 1,), 0))

    def test_the_greatest_basket(self):
        shop = (((5, 3),), (("pack", 0, 2, 4, None),))
        self.is_one(shop, ("less", (MILLION + 1,), 0))
        self.is_none(shop, ("less", (MILLION,), 0))
        self.is_one(shop, ("less", (MILLION - 1,), 0))

    def test_loss(self):
        shop = (((1, 2), (9, 0)), ())
        for pieces in (MILLION, MILLION + 1, 10 ** 400):
            self.is_one(shop, ("loss", (pieces, 0)))
            self.is_one(shop, ("loss", (9 * pieces + 1, pieces)))
            self.is_none(shop, ("loss", (9 * pieces, pieces)))
            self.is_none(shop, ("loss", (0, pieces)))


class WrongValues(FaultTest):
    def test_odd_objects(self):
        for value in ODD_OBJECTS + (None, 0, SHOP):
            self.is_none(SHOP, value)
            self.is_none(PAIR, value)

    def test_lists(self):
        for value in (["less", (2,), 0], ("less", [2], 0), ["loss", (4,)], ("loss", [4]),
                      ("less", (2,), [0]), [("loss", (4,))], (["less"], (2,), 0)):
            self.is_none(SHOP, value)

    def test_words(self):
        for word in ("", "least", "LESS", "loss ", "off", None, 0, True, b"less", ("less",),
                     Agreeable(), Touchy(), nested(29, tuple)):
            self.is_none(SHOP, (word, (2,), 0))
            self.is_none(SHOP, (word, (4,)))
        self.is_none(SHOP, ("loss", (2,), 0))
        self.is_none(SHOP, ("loss", (4,), 0))
        self.is_none(SHOP, ("less", (2,)))

    def test_lengths(self):
        for value in ((), ("less",), ("loss",), ("less", (2,)), ("less", (2,), 0, 0),
                      ("less", (2,), 0, None), ("loss", (4,), None), ("loss", (4,), 0, 0),
                      ("less", 2, 0), ("loss", 4), ("less", 0), (("loss", (4,)),)):
            self.is_none(SHOP, value)

    def test_goods(self):
        for good in (1, 2, -1, True, False, None, "0", (0,), [0], 10 ** 5000, Agreeable(),
                     Touchy(), nested(29, list)):
            self.is_none(SHOP, ("less", (2,), good))
        shop = (((5, 3), (5, 3)), (("pack", 1, 2, 4, None), ("pack", 0, 2, 4, None)))
        self.is_one(shop, ("less", (1, 1), 0))
        self.is_one(shop, ("less", (1, 1), 1))
        for good in (2, -1, -2, True, False):
            self.is_none(shop, ("less", (1, 1), good))

    def test_pieces(self):
        shop = (((1, 9),), ())
        self.is_one(shop, ("loss", (1,)))
        for pieces in (-1, -10 ** 5000, True, False, None, "1", b"1", (1,), [1], Agreeable(),
                       Touchy(), nested(28, tuple)):
            self.is_none(shop, ("loss", (pieces,)))
            self.is_none(shop, ("less", (pieces,), 0))
            self.is_none(PAIR, ("loss", (1, pieces)))
            self.is_none(PAIR, ("loss", (pieces, 1)))
            self.is_none(PAIR, ("less", (pieces, 3), 1))

    def test_lengths_of_baskets(self):
        shop = (((1, 9), (1, 9)), ())
        self.is_one(shop, ("loss", (1, 1)))
        for basket in ((), (1,), (1, 1, 1), (1, 1, 1, 1), None, 1, "11", {0: 1, 1: 1}):
            self.is_none(shop, ("loss", basket))
        for basket in ((), (2, 0), (2, 2)):
            self.is_none(SHOP, ("less", basket, 0))
            self.is_none(SHOP, ("loss", basket))
