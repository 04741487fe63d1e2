"""Acts of a shop, the shop under acts, and when an act touches a basket."""

import unittest

from sureprices.acts import are_acts, shop_under, touches
from sureprices.shops import is_shop

from tests.act_samples import FULL, FULL_ACTS, WRONG_ACTS, acts_of, new_source, some_acts
from tests.plain_faults import plain_touches, plain_under
from tests.samples import PAIR, SHOP, mixed_shops, small_baskets

NO_RULES = (((5, 3), (2, 1)), ())


class Acts(unittest.TestCase):
    def are_some(self, shop, value):
        self.assertIs(are_acts(shop, value), True, value)

    def are_none(self, shop, value):
        self.assertIs(are_acts(shop, value), False)

    def test_example(self):
        self.are_none(SHOP, (("most", 1, 1),))
        self.assertIs(are_acts(shop=SHOP, value=(("off", 1),)), True)

    def test_no_acts(self):
        self.are_some(SHOP, ())
        self.are_some(NO_RULES, ())

    def test_one_act(self):
        for act in (("most", 0, 1), ("most", 0, 2), ("off", 0), ("off", 1)):
            self.are_some(SHOP, (act,))
            self.are_none(SHOP, act)
            self.are_none(SHOP, [act])

    def test_several_acts(self):
        self.are_some(SHOP, (("most", 0, 1), ("most", 0, 2), ("off", 0), ("off", 1)))
        self.are_some(SHOP, (("most", 0, 1), ("off", 1)))
        self.are_some(PAIR, (("most", 2, 1), ("most", 2, 2), ("off", 0), ("off", 2)))

    def test_eight_acts_and_nine(self):
        self.are_some(FULL, FULL_ACTS[:8])
        self.are_some(FULL, FULL_ACTS[-8:])
        self.are_none(FULL, FULL_ACTS[:9])
        self.are_none(FULL, FULL_ACTS[-9:])
        self.are_none(FULL, FULL_ACTS)

    def test_sequence(self):
        self.are_none(SHOP, (("off", 1), ("off", 0)))
        self.are_none(SHOP, (("off", 0), ("most", 0, 1)))
        self.are_none(SHOP, (("most", 0, 2), ("most", 0, 1)))
        self.are_none(SHOP, (("most", 0, 1), ("off", 1), ("off", 0)))

    def test_repeated(self):
        self.are_none(SHOP, (("off", 0), ("off", 0)))
        self.are_none(SHOP, (("most", 0, 1), ("most", 0, 1), ("off", 0)))

    def test_most_of_the_rule(self):
        for told in (1, 2, None):
            for rule in (("pack", 0, 2, 7, told), ("each", 6, 2, told)):
                shop = (((5, 3),), (rule,))
                for most in (-1, 0, 1, 2, 3):
                    fits = most in (1, 2) and (told is None or most < told)
                    self.assertIs(are_acts(shop, (("most", 0, most),)), fits)

    def test_most_for_rules_without_one(self):
        shop = (((5, 3),), (("from", 0, 2, 4), ("over", 12, 3)))
        for number in (0, 1):
            self.are_some(shop, (("off", number),))
            for most in (1, 2):
                self.are_none(shop, (("most", number, most),))

    def test_rules_that_are_not_there(self):
        for number in (-1, 2, 3, 4, 10 ** 400):
            self.are_none(SHOP, (("off", number),))
            self.are_none(SHOP, (("most", number, 1),))
        self.are_none(NO_RULES, (("off", 0),))
        self.are_none(NO_RULES, (("most", 0, 1),))

    def test_wrong_values(self):
        for value in WRONG_ACTS:
            self.are_none(SHOP, value)

    def test_true_and_false(self):
        for acts in ((("off", True),), (("off", False),), (("most", False, 1),),
                     (("most", 0, True),), (("off", 0), ("off", True)), (True,), (False,)):
            self.are_none(SHOP, acts)

    def test_all_acts_of_many_shops(self):
        for shop in mixed_shops(100):
            found = acts_of(shop)
            for word in ("off", "most"):
                for number in range(-1, 5):
                    for rest in ((), (0,), (1,), (2,), (3,), (None,)):
                        act = (word, number) + rest
                        self.assertIs(are_acts(shop, (act,)), act in found, (shop, act))


class ShopUnder(unittest.TestCase):
    def check(self, shop, acts, told):
        before = repr((shop, acts))
        self.assertEqual(shop_under(shop, acts), told)
        self.assertIs(is_shop(told), True)
        self.assertEqual(repr((shop, acts)), before)

    def test_example(self):
        self.check(SHOP, (("most", 0, 2), ("off", 1)), (((5, 3),), (("pack", 0, 3, 9, 2),)))
        self.assertEqual(shop_under(shop=SHOP, acts=()), SHOP)

    def test_no_acts(self):
        self.check(SHOP, (), SHOP)
        self.check(PAIR, (), PAIR)
        self.check(NO_RULES, (), NO_RULES)

    def test_off(self):
        self.check(SHOP, (("off", 0),), (SHOP[0], SHOP[1][1:]))
        self.check(SHOP, (("off", 1),), (SHOP[0], SHOP[1][:1]))
        self.check(SHOP, (("off", 0), ("off", 1)), (SHOP[0], ()))

    def test_most(self):
        self.check(SHOP, (("most", 0, 1),), (SHOP[0], (("pack", 0, 3, 9, 1), ("over", 12, 3))))
        self.check(SHOP, (("most", 0, 2),), (SHOP[0], (("pack", 0, 3, 9, 2), ("over", 12, 3))))
        self.check(PAIR, (("most", 2, 1),), (PAIR[0], (PAIR[1][0], PAIR[1][1], ("each", 6, 3, 1))))
        shop = (((5, 3),), (("each", 6, 6, 2),))
        self.check(shop, (("most", 0, 1),), (shop[0], (("each", 6, 6, 1),)))

    def test_two_mosts(self):
        self.check(SHOP, (("most", 0, 1), ("most", 0, 2)),
                   (SHOP[0], (("pack", 0, 3, 9, 1), ("over", 12, 3))))

    def test_off_and_most(self):
        for acts in ((("most", 0, 1), ("off", 0)), (("most", 0, 2), ("off", 0)),
                     (("most", 0, 1), ("most", 0, 2), ("off", 0))):
            self.check(SHOP, acts, (SHOP[0], (("over", 12, 3),)))

    def test_the_rules_left_keep_their_order(self):
        goods, (one, two, three, four) = FULL
        self.check(FULL, (("off", 1),), (goods, (one, three, four)))
        self.check(FULL, (("off", 0), ("off", 2)), (goods, (two, four)))
        self.check(FULL, (("most", 1, 2), ("most", 3, 1), ("off", 0), ("off", 2)),
                   (goods, (("pack", 0, 3, 9, 2), ("each", 6, 3, 1))))
        self.check(FULL, FULL_ACTS[:7], (goods, (
            ("pack", 0, 2, 7, 1), ("pack", 0, 3, 9, 1), ("pack", 0, 2, 8, 1), ("each", 6, 3, 1))))

    def test_against_the_plain_search(self):
        source = new_source()
        for shop in mixed_shops(400):
            acts = some_acts(source, shop)
            self.check(shop, acts, plain_under(shop, acts)[0])


class Touches(unittest.TestCase):
    def check(self, shop, acts, act, touched, left_alone):
        for basket in touched:
            self.assertIs(touches(shop, acts, act, basket), True, basket)
        for basket in left_alone:
            self.assertIs(touches(shop, acts, act, basket), False, basket)

    def test_example(self):
        self.assertIs(touches(SHOP, (), ("most", 0, 1), (5,)), False)
        self.assertIs(touches(shop=SHOP, acts=(), act=("off", 0), basket=(5,)), True)

    def test_off(self):
        # One pack from three pieces on; 9 and 5 and 5 are the first 12.
        self.check(SHOP, (), ("off", 0), [(3,), (4,), (6,), (10 ** 6,)], [(0,), (1,), (2,)])
        self.check(SHOP, (), ("off", 1), [(4,), (5,), (10 ** 6,)], [(0,), (2,), (3,)])

    def test_most(self):
        self.check(SHOP, (), ("most", 0, 1), [(6,), (8,), (9,), (10 ** 6,)], [(0,), (3,), (5,)])
        self.check(SHOP, (), ("most", 0, 2), [(9,), (12,), (10 ** 6,)], [(0,), (3,), (6,), (8,)])

    def test_uses_under_the_acts(self):
        most = (("most", 0, 1),)
        self.check(SHOP, most, ("most", 0, 1), [], [(3,), (6,), (9,), (10 ** 6,)])
        self.check(SHOP, most, ("most", 0, 2), [], [(3,), (6,), (9,), (10 ** 6,)])
        self.check(SHOP, most, ("off", 0), [(3,), (6,)], [(2,)])
        most = (("most", 0, 2),)
        self.check(SHOP, most, ("most", 0, 1), [(6,), (9,)], [(3,), (5,)])
        self.check(SHOP, most, ("most", 0, 2), [], [(6,), (9,), (10 ** 6,)])

    def test_rule_that_is_switched_off(self):
        off = (("off", 0),)
        for act in (("off", 0), ("most", 0, 1), ("most", 0, 2)):
            self.check(SHOP, off, act, [], [(3,), (6,), (9,), (10 ** 6,)])
            self.check(SHOP, (("most", 0, 1),) + off, act, [], [(3,), (6,), (9,), (10 ** 6,)])
        # Without packs, three pieces are the first that cost 12.
        self.check(SHOP, off, ("off", 1), [(3,), (4,)], [(2,)])
        self.check(SHOP, (("off", 1),), ("off", 1), [], [(4,), (10 ** 6,)])

    def test_rule_behind_one_that_is_switched_off(self):
        shop = (((5, 3),), (("from", 0, 3, 4), ("pack", 0, 2, 7, None), ("each", 6, 3, None)))
        self.check(shop, (), ("off", 1), [(2,)], [(1,), (3,), (4,)])
        self.check(shop, (("off", 0),), ("off", 1), [(2,), (3,), (4,)], [(1,)])
        self.check(shop, (("off", 0),), ("most", 1, 1), [(4,), (5,)], [(1,), (3,)])
        self.check(shop, (("off", 0),), ("most", 2, 1), [(3,), (4,)], [(1,), (2,)])
        self.check(shop, (("off", 0), ("off", 1)), ("most", 2, 2), [(4,)], [(2,), (3,)])

    def test_two_goods(self):
        shop = (((5, 3), (5, 3)), (("pack", 1, 2, 7, None), ("pack", 0, 3, 9, 2)))
        self.check(shop, (), ("off", 0), [(0, 2), (3, 3)], [(0, 1), (9, 1), (9, 0)])
        self.check(shop, (), ("most", 1, 1), [(6, 0), (9, 9)], [(5, 9), (0, 9)])

    def test_against_the_plain_search(self):
        source = new_source()
        for shop in mixed_shops(150):
            acts = some_acts(source, shop)
            for act in acts_of(shop):
                for basket in small_baskets(shop, 5):
                    self.assertIs(touches(shop, acts, act, basket),
                                  plain_touches(shop, acts, act, basket),
                                  (shop, acts, act, basket))
