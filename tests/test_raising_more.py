"""Exceptions of all functions of the interface, and what they leave as it is."""

import copy
import unittest

from sureprices.acts import shop_under, touches
from sureprices.alike import exchangeable
from sureprices.cures import all_cheapest, is_cure, least_price, price_of, sure_acts
from sureprices.errors import (
    InvalidAct, InvalidActs, InvalidBasket, InvalidKinds, InvalidNumber, InvalidOffers, InvalidShop,
    NoFault)
from sureprices.faults import first_less, some_loss
from sureprices.papers import is_paper, paper
from sureprices.rules import effects, idle_rules

from tests.act_samples import FULL, FULL_ACTS, KINDS, OFF
from tests.calls import CALLS, OF_KINDS, WRONG
from tests.samples import PAIR, SHOP
from tests.test_layout import INTERFACE


def with_wrong(arguments, place, value):
    return arguments[:place] + (value,) + arguments[place + 1:]


class Raising(unittest.TestCase):
    def test_all_functions_are_called(self):
        called = sorted(function.__name__ for function, _, _ in CALLS)
        listed = [name for parts in INTERFACE.values()
                  for name, arguments in parts.items() if arguments is not None]
        self.assertEqual(called, sorted(listed))

    def check(self, function, arguments, error):
        with self.assertRaises(error) as caught:
            function(*arguments)
        self.assertIs(caught.exception.__class__, error)

    def test_right_arguments(self):
        for function, arguments, _ in CALLS:
            function(*arguments)

    def test_one_wrong_argument(self):
        for function, arguments, errors in CALLS:
            for place, error in enumerate(errors):
                for value in WRONG.get(error, ()):
                    self.check(function, with_wrong(arguments, place, value), error)

    def test_several_wrong_arguments(self):
        for function, arguments, errors in CALLS:
            for place, error in enumerate(errors):
                for later in range(place + 1, len(errors)):
                    for value in WRONG.get(errors[later], (None,)):
                        for first in WRONG.get(error, ())[-3:]:
                            both = with_wrong(arguments, later, value)
                            self.check(function, with_wrong(both, place, first), error)

    def test_all_arguments_wrong(self):
        for function, arguments, errors in CALLS:
            for place, error in enumerate(errors):
                if error is not None:
                    wrong = arguments[:place] + (None,) * (len(arguments) - place)
                    self.check(function, wrong, error)

    def test_no_fault_after_the_shop(self):
        fine = (((5, 3),), ())
        for function in (first_less, some_loss):
            self.check(function, (fine,), NoFault)
            self.check(function, (list(fine),), InvalidShop)

    def test_acts_of_another_shop(self):
        self.check(shop_under, (PAIR, (("most", 0, 1),)), InvalidActs)
        self.check(shop_under, (SHOP, (("off", 2),)), InvalidActs)
        self.check(shop_under, (FULL, FULL_ACTS[:9]), InvalidActs)
        self.check(touches, (FULL, FULL_ACTS[:9], ("off", 0), (1,)), InvalidActs)
        self.check(touches, (PAIR, (), ("most", 0, 1), (1, 1)), InvalidAct)
        self.check(touches, (SHOP, (), ("most", 1, 1), (1,)), InvalidAct)

    def test_baskets_of_touches(self):
        for basket in ((10 ** 6 + 1,), (1, 1), (), (-1,), [1]):
            self.check(touches, (SHOP, (), ("off", 0), basket), InvalidBasket)
        touches(SHOP, (), ("off", 0), (10 ** 6,))

    def test_acts_that_are_not_bought(self):
        wrong = ((("most", 0, 2),), (("off", 1), ("off", 0)), (("off", 0), ("off", 0)),
                 (("most", 0, 1), ("most", 0, 2)), (OFF[0],), [("off", 0)], (["off", 0],),
                 (("off", True),), (("most", 0, 1), ("off", 1), ("off", 0)), ("off", 0))
        for acts in wrong:
            self.check(price_of, (SHOP, OFF, acts), InvalidActs)
            self.check(is_cure, (SHOP, OFF, ("less",), acts), InvalidActs)
        for acts in ((("off", 0),), (("most", 0, 1),)):
            self.check(price_of, (SHOP, (), acts), InvalidActs)
            self.check(is_cure, (SHOP, OFF[2:], ("less",), acts), InvalidActs)

    def test_seven_offers(self):
        offers = tuple((act, 1) for act in FULL_ACTS)
        for function in OF_KINDS:
            self.check(function, (FULL, offers[:7], ("less",)), InvalidOffers)
        self.check(price_of, (FULL, offers[:7], ()), InvalidOffers)
        self.check(paper, (FULL, offers[:7], ("less",), 3), InvalidOffers)
        self.check(is_paper, (FULL, offers[:7], ("less",), 3, []), InvalidOffers)
        self.check(is_cure, (FULL, offers[:7], ("less",), ()), InvalidOffers)

    def test_all_kinds(self):
        for kinds in KINDS:
            for function in OF_KINDS:
                function(SHOP, OFF, kinds)
            is_cure(SHOP, OFF, kinds, ())
            paper(SHOP, OFF, kinds, 3)
        for kinds in ((), ("loss", "less"), ("less", "less"), ["less"], ("more",), "less"):
            for function in OF_KINDS:
                self.check(function, (SHOP, OFF, kinds), InvalidKinds)
            self.check(is_cure, (SHOP, OFF, kinds, ()), InvalidKinds)
            self.check(paper, (SHOP, OFF, kinds, 3), InvalidKinds)
            self.check(is_paper, (SHOP, OFF, kinds, 3, []), InvalidKinds)

    def test_prices_of_papers(self):
        for price in (-1, 100, True, False, None, "3", 10 ** 5000):
            self.check(paper, (SHOP, OFF, ("less",), price), InvalidNumber)
            self.check(is_paper, (SHOP, OFF, ("less",), price, []), InvalidNumber)
        for price in (0, 1, 99):
            paper(SHOP, OFF, ("less",), price)
            self.assertIs(is_paper(SHOP, OFF, ("less",), price, []), False)

    def test_baskets_of_effects(self):
        for basket in ((10 ** 6 + 1,), (1, 1), (), (-1,), [1], (True,)):
            self.check(effects, (SHOP, basket), InvalidBasket)
        effects(SHOP, (10 ** 6,))


class NotModified(unittest.TestCase):
    def test_right_arguments(self):
        for function, arguments, _ in CALLS:
            given = copy.deepcopy(arguments)
            first = function(*given)
            self.assertEqual(given, arguments)
            self.assertEqual(function(*given), first)

    def test_wrong_arguments(self):
        lists = [[[[5, 3]], [["over", 12, 3]]], [["off", [0]], {0: [1]}], ["less", "loss"], [4]]
        for function, arguments, errors in CALLS:
            for place, error in enumerate(errors):
                for value in lists:
                    given = copy.deepcopy(value)
                    wrong = with_wrong(arguments, place, given)
                    if error is None:
                        self.assertIs(function(*wrong), False)
                    else:
                        with self.assertRaises(error):
                            function(*wrong)
                    self.assertEqual(given, value)


class NewLists(unittest.TestCase):
    def test_each_call_returns_a_new_list(self):
        for function in (all_cheapest, sure_acts):
            for shop, offers in ((SHOP, OFF), (SHOP, ()), ((((5, 3),), ()), ())):
                for kinds in KINDS:
                    self.check_new(function, shop, offers, kinds)

    def check_new(self, function, *arguments):
        first = function(*arguments)
        self.assertIs(first.__class__, list)
        told = list(first)
        first.append(None)
        first.reverse()
        self.assertEqual(function(*arguments), told)
        self.assertIsNot(function(*arguments), function(*arguments))

    def test_lists_of_papers_and_rules(self):
        for shop in (SHOP, PAIR, FULL, (((5, 3),), ())):
            self.check_new(paper, shop, (), ("less",), 0)
            self.check_new(idle_rules, shop)
            self.check_new(exchangeable, shop)
            self.check_new(effects, shop, (4,) * len(shop[0]))
        for kinds in KINDS:
            self.check_new(paper, SHOP, OFF, kinds, 3)

    def test_the_looked_through_paper_stays(self):
        entries = paper(SHOP, OFF, ("less", "loss"), 4)
        given = copy.deepcopy(entries)
        self.assertIs(is_paper(SHOP, OFF, ("less", "loss"), 4, given), True)
        self.assertEqual(given, entries)

    def test_kinds_of_values(self):
        self.assertIs(least_price(SHOP, OFF, ("less",)).__class__, int)
        self.assertIs(price_of(SHOP, OFF, ()).__class__, int)
        self.assertIs(shop_under(SHOP, (("off", 0),)).__class__, tuple)
        self.assertIs(shop_under(SHOP, (("off", 0),))[1].__class__, tuple)
        for acts in all_cheapest(SHOP, OFF, ("less",)):
            self.assertIs(acts.__class__, tuple)
