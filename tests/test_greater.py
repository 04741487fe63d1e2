"""The least charge of the baskets that contain a basket, and the first one that is charged less."""

import functools
import unittest

from sureprices.errors import InvalidBasket, InvalidShop
from sureprices.greater import fewest_more, least_above

from tests.plain import plain_charge
from tests.plain_faults import plain_order
from tests.samples import (
    LATE_SHOP, PAIR, SHOP, WRONG_BASKETS, WRONG_SHOPS, mixed_shops, shops_of_one_good,
    small_baskets)

ONE = (((5, 3),), ())
TWO = (((5, 3), (5, 3)), ())

# From one piece, the first basket that is charged less has twenty-one pieces more.
GAP_SHOP = (((1, 2),), (("each", 4, 2, None), ("each", 6, 5, 1), ("over", 2, 1), ("over", 6, 6)))


@functools.lru_cache(maxsize=None)
def plain_charges(shop, most):
    """All baskets of at most so many pieces, the first ones first, and their charges."""
    return [(basket, plain_charge(shop, basket)) for basket in plain_order(len(shop[0]), most)]


def plain_above(shop, basket, most):
    """What both functions return, if no basket of more than so many pieces counts."""
    found = [(other, charged) for other, charged in plain_charges(shop, most)
             if all(more >= pieces for more, pieces in zip(other, basket))]
    least = min(charged for _, charged in found)
    first = next(other for other, charged in found if charged == least)
    own = plain_charge(shop, basket)
    fewest = next((other for other, charged in found if charged < own), None)
    return (least, first), fewest


class GreaterTest(unittest.TestCase):
    def check(self, shop, basket, least, first, fewest):
        self.assertEqual(least_above(shop, basket), (least, first), (shop, basket))
        self.assertEqual(fewest_more(shop, basket), fewest, (shop, basket))

    def agree(self, shop, basket, most):
        (least, first), fewest = plain_above(shop, basket, most)
        self.check(shop, basket, least, first, fewest)


class Ordinary(GreaterTest):
    def test_examples(self):
        self.assertEqual(least_above(SHOP, (2,)), (9, (3,)))
        self.assertEqual(fewest_more(SHOP, (5,)), (6,))
        self.assertEqual(least_above(shop=SHOP, basket=(2,)), (9, (3,)))
        self.assertEqual(fewest_more(shop=SHOP, basket=(5,)), (6,))
        self.assertIs(least_above(SHOP, (2,)).__class__, tuple)

    def test_the_basket_itself(self):
        for pieces in (0, 1, 3, 4, 100):
            self.check(ONE, (pieces,), 5 * pieces, (pieces,), None)
            self.check(TWO, (0, pieces), 5 * pieces, (0, pieces), None)
        self.check(SHOP, (3,), 9, (3,), None)
        self.check(SHOP, (0,), 0, (0,), None)

    def test_one_piece_more(self):
        self.check(SHOP, (2,), 9, (3,), (3,))
        self.check(SHOP, (5,), 15, (6,), (6,))
        self.check(SHOP, (98,), 33 * 9 - 3, (99,), (99,))

    def test_several_pieces_of_a_good(self):
        # 7 for seven, and 12 - 6 for twelve.
        shop = (((1, 0),), (("over", 12, 6),))
        for pieces in range(7, 12):
            self.check(shop, (pieces,), 6, (12,), (12,))
        self.check(shop, (6,), 6, (6,), None)
        two_goods = (((9, 0), (1, 0)), (("over", 12, 6),))
        self.check(two_goods, (0, 8), 6, (0, 12), (0, 12))
        self.check(two_goods, (1, 0), 6, (1, 3), (1, 3))

    def test_pieces_of_two_goods(self):
        # 5 for one of each; two of each reach 10, and are charged 4.
        shop = (((3, 0), (2, 0)), (("over", 10, 6),))
        self.check(shop, (1, 1), 4, (2, 2), (2, 2))
        # One of each is charged 18, two of one of them 11, two of both 4.
        shop = (((9, 0), (9, 0)), (("from", 0, 2, 1), ("from", 1, 2, 1)))
        self.check(shop, (1, 1), 4, (2, 2), (1, 2))

    def test_many_pieces_more(self):
        self.check(GAP_SHOP, (1,), 0, (22,), (22,))
        self.agree(GAP_SHOP, (1,), 120)
        goods, rules = GAP_SHOP
        self.check((goods + ((9, 0),), rules), (1, 0), 0, (4, 2), (4, 2))
        self.check(LATE_SHOP, (61,), 6, (71,), (71,))

    def test_the_first_of_equal_ones(self):
        shop = (((5, 3), (5, 3)), (("over", 10, 6),))
        self.check(shop, (1, 0), 4, (1, 1), (1, 1))
        self.check(shop, (0, 1), 4, (0, 2), (0, 2))
        # Nothing is charged for none, for three and for six.
        shop = (((1, 0),), (("each", 3, 3, 2),))
        self.check(shop, (0,), 0, (0,), None)
        self.check(shop, (1,), 0, (3,), (3,))
        self.check(shop, (3,), 0, (3,), None)
        self.check(shop, (4,), 0, (6,), (6,))
        self.check(shop, (7,), 1, (7,), None)

    def test_the_first_that_is_less_need_not_be_the_least(self):
        shop = (((4, 0),), (("over", 8, 5), ("from", 0, 4, 1)))
        self.check(shop, (1,), 3, (2,), (2,))
        shop = (((9, 0),), (("pack", 0, 3, 20, 1), ("over", 10, 4), ("pack", 0, 2, 20, 1)))
        self.agree(shop, (1,), 60)
        shop = (((9, 0),), (("from", 0, 4, 1), ("from", 0, 3, 5)))
        self.check(shop, (2,), 4, (4,), (3,))

    def test_charges_above_many_pieces(self):
        goods = ((5, 3), (2, 1))
        self.check((goods, ()), (100, 0), 500, (100, 0), None)
        self.check((goods, (("pack", 0, 3, 9, None),)), (50, 50), 153 + 100, (51, 50), (51, 50))


class AgainstTheCount(GreaterTest):
    def test_one_good(self):
        for shop in list(shops_of_one_good())[::4]:
            for pieces in (0, 1, 2, 5, 11, 30):
                self.agree(shop, (pieces,), 130)

    def test_late_shop(self):
        for pieces in range(0, 101, 3):
            self.agree(LATE_SHOP, (pieces,), 200)
            self.agree(GAP_SHOP, (pieces,), 200)

    def test_mixed_shops(self):
        for shop in mixed_shops(120):
            for basket in small_baskets(shop, 3):
                self.agree(shop, basket, 36)


class Refused(unittest.TestCase):
    def check(self, shop, basket, error):
        for function in (least_above, fewest_more):
            with self.assertRaises(error) as caught:
                function(shop, basket)
            self.assertIs(caught.exception.__class__, error)

    def test_numbers_of_pieces(self):
        for shop, basket in ((SHOP, (0,)), (SHOP, (100,)), (PAIR, (0, 0)), (PAIR, (100, 0)),
                             (PAIR, (0, 100)), (PAIR, (50, 50)), (PAIR, (99, 1))):
            least_above(shop, basket)
            fewest_more(shop, basket)
        for shop, basket in ((SHOP, (101,)), (SHOP, (10 ** 6,)), (PAIR, (101, 0)), (PAIR, (0, 101)),
                             (PAIR, (50, 51)), (PAIR, (100, 100)), (PAIR, (10 ** 6, 10 ** 6)),
                             (SHOP, (10 ** 6 + 1,)), (PAIR, (-1, 1)), (PAIR, (101, -1))):
            self.check(shop, basket, InvalidBasket)

    def test_wrong_arguments(self):
        for basket in WRONG_BASKETS:
            self.check(SHOP, basket, InvalidBasket)
            self.check(None, basket, InvalidShop)
        for shop in WRONG_SHOPS:
            self.check(shop, (1,), InvalidShop)
            self.check(shop, (101,), InvalidShop)
