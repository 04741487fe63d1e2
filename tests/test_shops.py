import copy
import unittest

from sureprices.shops import is_shop

from tests.samples import (
    ODD_OBJECTS, ONE_GOOD, PAIR, SHOP, TWO_GOODS, WRONG_SHOPS, mixed_shops, nested,
    shops_of_one_good)

RULES = (
    ("pack", 0, 3, 9, None), ("pack", 0, 2, 2, 1), ("from", 0, 4, 1), ("over", 12, 3),
    ("each", 6, 3, None), ("each", 6, 3, 2))


def replaced(items, at, item):
    return items[:at] + (item,) + items[at + 1:]


class ShopTest(unittest.TestCase):
    def is_one(self, value):
        self.assertIs(is_shop(value), True, value)

    def is_none(self, value):
        self.assertIs(is_shop(value), False)

    def rule_is_one(self, *rules, goods=ONE_GOOD):
        self.is_one((goods, rules))

    def rule_is_none(self, *rules, goods=ONE_GOOD):
        self.is_none((goods, rules))


class OrdinaryShops(ShopTest):
    def test_example(self):
        self.is_one(SHOP)

    def test_two_goods(self):
        self.is_one(PAIR)

    def test_no_rules(self):
        self.is_one((ONE_GOOD, ()))
        self.is_one((TWO_GOODS, ()))

    def test_same_rule_twice(self):
        self.rule_is_one(*[("pack", 0, 3, 9, None)] * 4)

    def test_keyword(self):
        self.assertIs(is_shop(value=SHOP), True)

    def test_many(self):
        for shop in list(shops_of_one_good()) + list(mixed_shops(300)):
            self.is_one(shop)


class GoodsBounds(ShopTest):
    def test_price(self):
        for price in range(1, 10):
            self.is_one((((price, 3),), ()))
            self.is_one((((2, 1), (price, 3)), ()))
        for price in (0, 10, -1, 100):
            self.is_none((((price, 3),), ()))
            self.is_none((((2, 1), (price, 3)), ()))
            self.is_none((((price, 3), (2, 1)), ()))

    def test_cost(self):
        for cost in range(10):
            self.is_one((((5, cost),), ()))
            self.is_one((((2, 1), (5, cost)), ()))
        for cost in (-1, 10, 100):
            self.is_none((((5, cost),), ()))
            self.is_none((((2, 1), (5, cost)), ()))

    def test_how_many(self):
        self.is_none(((), ()))
        self.is_one((((5, 3),), ()))
        self.is_one((((5, 3),) * 2, ()))
        self.is_none((((5, 3),) * 3, ()))

    def test_lengths_of_a_good(self):
        for good in ((), (5,), (5, 3, 1), (5, 3, None)):
            self.is_none(((good,), ()))
            self.is_none(((good, (5, 3)), ()))


class RulesBounds(ShopTest):
    def test_how_many(self):
        for many in range(5):
            self.rule_is_one(*[("over", 12, 3)] * many)
        for many in (5, 6, 100):
            self.rule_is_none(*[("over", 12, 3)] * many)

    def test_unknown_first_words(self):
        for word in ("", "Pack", "packs", "pack ", "pac", "none", "off", "least", "p"):
            for rule in RULES:
                self.rule_is_none((word,) + rule[1:])

    def test_words_of_other_kinds(self):
        for rule in RULES:
            for word in ("pack", "from", "over", "each"):
                if word != rule[0]:
                    self.rule_is_none((word,) + rule[1:], goods=TWO_GOODS)

    def test_lengths(self):
        for rule in RULES:
            self.rule_is_one(rule)
            for end in range(len(rule)):
                self.rule_is_none(rule[:end])
                self.rule_is_none(("over", 12, 3), rule[:end])
            for more in (1, 2, None, "pack"):
                self.rule_is_none(rule + (more,))


class GoodOfARule(ShopTest):
    def test_numbers_that_the_shop_has(self):
        for rule in RULES[:3]:
            self.rule_is_one(replaced(rule, 1, 0))
            self.rule_is_one(replaced(rule, 1, 0), goods=TWO_GOODS)
            self.rule_is_one(replaced(rule, 1, 1), goods=TWO_GOODS)

    def test_numbers_that_it_has_not(self):
        for rule in RULES[:3]:
            self.rule_is_none(replaced(rule, 1, -1))
            self.rule_is_none(replaced(rule, 1, 1))
            self.rule_is_none(replaced(rule, 1, 2))
            self.rule_is_none(replaced(rule, 1, -1), goods=TWO_GOODS)
            self.rule_is_none(replaced(rule, 1, 2), goods=TWO_GOODS)


class PackBounds(ShopTest):
    def test_size(self):
        for size in (2, 3):
            self.rule_is_one(("pack", 0, size, 9, None))
        for size in (-3, 0, 1, 4, 5):
            self.rule_is_none(("pack", 0, size, 9, None))

    def test_price(self):
        for size in (2, 3):
            for price in range(size, 31):
                self.rule_is_one(("pack", 0, size, price, 1))
            for price in (-1, 0, 1, size - 1, 31, 32):
                self.rule_is_none(("pack", 0, size, price, 1))

    def test_most(self):
        for most in (1, 2, None):
            self.rule_is_one(("pack", 0, 2, 9, most))
        for most in (-1, 0, 3, 4):
            self.rule_is_none(("pack", 0, 2, 9, most))


class FromBounds(ShopTest):
    def test_least(self):
        for least in (2, 3, 4):
            self.rule_is_one(("from", 0, least, 3))
        for least in (-1, 0, 1, 5, 6):
            self.rule_is_none(("from", 0, least, 3))

    def test_price(self):
        for price in range(1, 10):
            self.rule_is_one(("from", 0, 2, price))
        for price in (-1, 0, 10, 11):
            self.rule_is_none(("from", 0, 2, price))


class OverBounds(ShopTest):
    def test_sum(self):
        for full in range(2, 13):
            self.rule_is_one(("over", full, 1))
        for full in (-1, 0, 1, 13, 14):
            self.rule_is_none(("over", full, 1))

    def test_off(self):
        for full in range(2, 13):
            for off in range(1, min(6, full) + 1):
                self.rule_is_one(("over", full, off))
            for off in (-1, 0, min(6, full) + 1, 7, 12, 13):
                self.rule_is_none(("over", full, off))


class EachBounds(ShopTest):
    def test_sum(self):
        for most in (1, 2, None):
            for full in range(2, 7):
                self.rule_is_one(("each", full, 1, most))
            for full in (-1, 0, 1, 7, 8, 12):
                self.rule_is_none(("each", full, 1, most))

    def test_off(self):
        for most in (1, 2):
            for full in range(2, 7):
                for off in range(1, full + 1):
                    self.rule_is_one(("each", full, off, most))
                for off in (-1, 0, full + 1, 7):
                    self.rule_is_none(("each", full, off, most))

    def test_off_without_a_most(self):
        last = {2: 1, 3: 1, 4: 2, 5: 2, 6: 3}
        for full, greatest in last.items():
            for off in range(1, greatest + 1):
                self.rule_is_one(("each", full, off, None))
            for off in (-1, 0, greatest + 1, full, full + 1):
                self.rule_is_none(("each", full, off, None))

    def test_most(self):
        for most in (1, 2, None):
            self.rule_is_one(("each", 6, 3, most))
        for most in (-1, 0, 3, 4):
            self.rule_is_none(("each", 6, 3, most))

    def test_only_one_without_a_most(self):
        endless = ("each", 6, 3, None)
        self.rule_is_one(endless, ("each", 6, 3, 1), ("each", 6, 3, 2))
        self.rule_is_one(endless, ("pack", 0, 3, 9, None), ("pack", 0, 2, 9, None))
        self.rule_is_none(endless, endless)
        self.rule_is_none(endless, ("each", 2, 1, None))
        self.rule_is_none(endless, ("over", 12, 3), ("from", 0, 2, 3), ("each", 4, 1, None))
        self.rule_is_none(endless, endless, endless)


class WrongValues(ShopTest):
    def test_wrong_shops(self):
        for value in WRONG_SHOPS:
            self.is_none(value)

    def test_true_and_false_in_the_place_of_integers(self):
        for flag in (True, False):
            for goods in (ONE_GOOD, TWO_GOODS):
                for at, good in enumerate(goods):
                    for place in range(2):
                        self.is_none((replaced(goods, at, replaced(good, place, flag)), ()))
            for rule in RULES:
                for place in range(1, len(rule)):
                    self.rule_is_none(replaced(rule, place, flag))
                    self.rule_is_none(replaced(rule, place, flag), goods=TWO_GOODS)

    def test_true_and_false_where_the_integers_that_they_equal_are_right(self):
        self.rule_is_one(("from", 0, 2, 1))
        self.rule_is_none(("from", False, 2, 1))
        self.rule_is_none(("from", 0, 2, True))
        self.rule_is_one(("pack", 1, 2, 2, 1), goods=TWO_GOODS)
        self.rule_is_none(("pack", True, 2, 2, 1), goods=TWO_GOODS)
        self.rule_is_none(("pack", 1, 2, 2, True), goods=TWO_GOODS)
        self.rule_is_none(("over", 2, True))
        self.rule_is_none(("each", 2, True, 1))
        self.rule_is_none(("each", 2, 1, True))
        self.is_one((((1, 0),), ()))
        self.is_none((((True, 0),), ()))
        self.is_none((((1, False),), ()))
        self.is_none((((1, True),), ()))

    def test_odd_objects_in_the_place_of_integers(self):
        for odd in ODD_OBJECTS:
            for place in range(2):
                self.is_none(((replaced((5, 3), place, odd),), ()))
            for rule in RULES:
                for place in range(1, len(rule)):
                    self.rule_is_none(replaced(rule, place, odd))

    def test_none_in_the_place_of_integers(self):
        self.is_none((((None, 3),), ()))
        self.is_none((((5, None),), ()))
        for rule in (("pack", 0, 3, 9), ("from", 0, 4, 1), ("over", 12, 3), ("each", 6, 3)):
            most = (1,) if rule[0] in ("pack", "each") else ()
            for place in range(len(rule)):
                self.rule_is_none(replaced(rule, place, None) + most)

    def test_odd_objects_in_the_place_of_goods(self):
        for odd in ODD_OBJECTS + (None,):
            self.is_none(((odd,), ()))
            self.is_none(((odd, (5, 3)), ()))
            self.is_none((((5, 3), odd), ()))
            self.is_none((odd, ()))

    def test_odd_objects_in_the_place_of_rules(self):
        for odd in ODD_OBJECTS + (None,):
            self.rule_is_none(odd)
            self.rule_is_none(("over", 12, 3), odd)
            if odd.__class__ is not tuple or len(odd) > 0:
                self.is_none((ONE_GOOD, odd))

    def test_odd_objects_in_the_place_of_words(self):
        for odd in ODD_OBJECTS + (None,):
            if odd.__class__ is not str:
                for rule in RULES:
                    self.rule_is_none(replaced(rule, 0, odd))

    def test_lists_in_the_place_of_tuples(self):
        for shop in (SHOP, PAIR):
            goods, rules = shop
            self.is_none(list(shop))
            self.is_none([goods, rules])
            self.is_none((list(goods), rules))
            self.is_none((goods, list(rules)))
            for at, good in enumerate(goods):
                self.is_none((replaced(goods, at, list(good)), rules))
            for at, rule in enumerate(rules):
                self.is_none((goods, replaced(rules, at, list(rule))))
        self.is_none((ONE_GOOD, []))

    def test_lengths_of_a_shop(self):
        self.is_none(())
        self.is_none((ONE_GOOD,))
        self.is_none((ONE_GOOD, (), ()))
        self.is_none((ONE_GOOD, (), None))

    def test_deep_nesting(self):
        for kind in (tuple, list):
            for depth in range(1, 31):
                self.is_none(nested(depth, kind))
            for depth in range(2, 27):
                self.rule_is_none(nested(depth, kind))
                self.is_none(((nested(depth, kind),), ()))
                self.rule_is_none(("over", nested(depth, kind), 3))

    def test_a_shop_in_a_tuple_is_none(self):
        value = SHOP
        for _ in range(20):
            value = (value,)
            self.is_none(value)

    def test_not_modified(self):
        value = [[[5, 3], [2, 1]], [["over", 12, 3], {"pack": [0]}]]
        before = copy.deepcopy(value)
        self.is_none(value)
        self.is_none((value, ()))
        self.is_none((ONE_GOOD, (value,)))
        self.assertEqual(value, before)
