"""Tills: pieces put in and taken out, steps undone, duplicates, and what tills are equal to."""

import copy
import random
import unittest

from sureprices.errors import InvalidNumber, InvalidShop, NothingToUndo, NotThere
from sureprices.till import Till

from tests.act_samples import WRONG_NUMBERS
from tests.plain import plain_charge
from tests.samples import ODD_OBJECTS, PAIR, SHOP, WRONG_SHOPS, mixed_shops, nested


def filled(shop, *goods):
    till = Till(shop)
    for good in goods:
        till.put(good)
    return till


class TillTest(unittest.TestCase):
    def check(self, till, basket, charge):
        self.assertEqual(till.basket(), basket)
        self.assertIs(till.basket().__class__, tuple)
        self.assertEqual(len(till), sum(basket))
        self.assertEqual(str(till), str(charge))

    def refuse(self, error, function, *arguments):
        with self.assertRaises(error) as caught:
            function(*arguments)
        self.assertIs(caught.exception.__class__, error)


class Steps(TillTest):
    def test_example(self):
        t = Till(SHOP)
        self.assertEqual(t.put(0), 5)
        self.assertEqual(str(t), "5")
        self.assertEqual(t.take(0), -5)
        self.assertEqual(t.basket(), (0,))
        self.assertEqual(t.undo(), (1,))

    def test_keywords(self):
        till = Till(shop=SHOP)
        self.assertEqual(till.put(good=0), 5)
        self.assertEqual(till.take(good=0), -5)

    def test_at_first(self):
        self.check(Till(SHOP), (0,), 0)
        self.check(Till(PAIR), (0, 0), 0)
        self.refuse(NothingToUndo, Till(SHOP).undo)

    def test_put_and_take(self):
        # 0, 5, 10, 9, 11
        till = Till(SHOP)
        self.assertEqual([till.put(0) for _ in range(4)], [5, 5, -1, 2])
        self.check(till, (4,), 11)
        self.assertEqual([till.take(0) for _ in range(4)], [-2, 1, -5, -5])
        self.check(till, (0,), 0)

    def test_two_goods(self):
        # 2, 7 - 3, 9 - 3, 11 - 3, 16 - 6
        till = Till(PAIR)
        self.assertEqual([till.put(good) for good in (1, 0, 1, 0, 0)], [2, 2, 2, 2, 2])
        self.check(till, (3, 2), 10)
        # 14 - 6
        self.assertEqual(till.take(1), -2)
        self.check(till, (3, 1), 8)

    def test_many_pieces(self):
        till = Till((((9, 0), (1, 0)), ()))
        for _ in range(150):
            till.put(0)
            till.put(1)
        self.check(till, (150, 150), 1500)
        for pieces in range(299, -1, -1):
            self.assertEqual(sum(till.undo()), pieces)
        self.refuse(NothingToUndo, till.undo)


class Undoing(TillTest):
    def test_to_the_beginning_and_beyond(self):
        till = filled(PAIR, 0, 1, 1)
        till.take(0)
        self.assertEqual([till.undo() for _ in range(4)], [(1, 2), (1, 1), (1, 0), (0, 0)])
        for _ in range(3):
            self.refuse(NothingToUndo, till.undo)
            self.check(till, (0, 0), 0)
        till.put(1)
        self.assertEqual(till.undo(), (0, 0))
        self.refuse(NothingToUndo, till.undo)

    def test_undoing_is_no_step(self):
        till = filled(SHOP, 0, 0)
        self.assertEqual(till.undo(), (1,))
        till.put(0)
        till.put(0)
        self.assertEqual([till.undo() for _ in range(3)], [(2,), (1,), (0,)])
        self.refuse(NothingToUndo, till.undo)

    def test_a_taken_piece(self):
        till = filled(SHOP, 0)
        till.take(0)
        self.assertEqual(till.undo(), (1,))
        self.check(till, (1,), 5)
        self.assertEqual(till.undo(), (0,))

    def test_after_an_exception(self):
        till = filled(PAIR, 0)
        self.refuse(NotThere, till.take, 1)
        self.refuse(InvalidNumber, till.put, 2)
        self.refuse(InvalidNumber, till.take, 2)
        self.assertEqual(till.undo(), (0, 0))
        self.refuse(NothingToUndo, till.undo)


class Refused(TillTest):
    def test_wrong_shops(self):
        for shop in WRONG_SHOPS + ((((5, 3),), (("over", 5, 6),)), Till(SHOP)):
            self.refuse(InvalidShop, Till, shop)

    def test_wrong_goods(self):
        till, empty = filled(SHOP, 0, 0), Till(PAIR)
        for good in WRONG_NUMBERS + (1, 2, -1, True, False, None):
            self.refuse(InvalidNumber, till.put, good)
            self.refuse(InvalidNumber, till.take, good)
            self.check(till, (2,), 10)
        for good in WRONG_NUMBERS + (2, -1, -2, True, False, None, (0,), "0"):
            self.refuse(InvalidNumber, empty.put, good)
            self.refuse(InvalidNumber, empty.take, good)
        self.check(empty, (0, 0), 0)
        self.refuse(NothingToUndo, empty.undo)

    def test_not_there(self):
        till = filled(PAIR, 1)
        self.refuse(NotThere, till.take, 0)
        self.check(till, (0, 1), 2)
        till.take(1)
        self.refuse(NotThere, till.take, 1)
        self.check(till, (0, 0), 0)
        self.assertEqual(till.undo(), (0, 1))

    def test_arguments_stay(self):
        good = [0, [1]]
        till = Till(copy.deepcopy(SHOP))
        self.refuse(InvalidNumber, till.put, good)
        self.refuse(InvalidNumber, till.take, good)
        self.assertEqual(good, [0, [1]])
        shop = [[[5, 3]], [["over", 12, 3]]]
        self.refuse(InvalidShop, Till, shop)
        self.assertEqual(shop, [[[5, 3]], [["over", 12, 3]]])


class Duplicates(TillTest):
    def test_equal_at_once_and_apart_afterwards(self):
        till = filled(SHOP, 0, 0, 0)
        other = till.duplicate()
        self.assertIs(other.__class__, Till)
        self.assertIsNot(other, till)
        self.assertTrue(other == till)
        self.check(other, (3,), 9)
        self.assertEqual(other.put(0), 2)
        self.check(till, (3,), 9)
        self.check(other, (4,), 11)
        self.assertFalse(other == till)
        till.put(0)
        self.assertTrue(other == till)
        till.take(0)
        till.take(0)
        self.check(other, (4,), 11)

    def test_no_step_before(self):
        till = filled(PAIR, 0, 1)
        other = till.duplicate()
        self.refuse(NothingToUndo, other.undo)
        self.check(other, (1, 1), plain_charge(PAIR, (1, 1)))
        other.put(1)
        self.assertEqual(other.undo(), (1, 1))
        self.refuse(NothingToUndo, other.undo)
        self.assertEqual([till.undo(), till.undo()], [(1, 0), (0, 0)])
        self.check(other, (1, 1), plain_charge(PAIR, (1, 1)))

    def test_of_a_duplicate(self):
        first = filled(SHOP, 0)
        second = first.duplicate()
        second.put(0)
        third = second.duplicate()
        self.check(third, (2,), 10)
        self.refuse(NothingToUndo, third.undo)
        self.assertEqual(second.undo(), (1,))
        self.check(third, (2,), 10)

    def test_of_an_empty_till(self):
        other = Till(PAIR).duplicate()
        self.check(other, (0, 0), 0)
        self.assertTrue(other == Till(PAIR))


class Equal(TillTest):
    def test_unlike_histories(self):
        till, other = filled(PAIR, 0, 1), filled(PAIR, 1, 1, 0)
        self.assertFalse(till == other)
        other.take(1)
        self.assertIs(till == other, True)
        self.assertIs(till != other, False)
        other.undo()
        self.assertIs(till == other, False)
        self.assertIs(till != other, True)

    def test_unlike_shops(self):
        self.assertFalse(Till(SHOP) == Till(PAIR))
        self.assertFalse(Till(SHOP) == Till((((5, 2),), SHOP[1])))
        self.assertFalse(Till(SHOP) == Till((SHOP[0], SHOP[1][:1])))
        self.assertFalse(Till(SHOP) == Till((SHOP[0], SHOP[1][::-1])))
        self.assertTrue(Till(SHOP) == Till((((5, 3),), (("pack", 0, 3, 9, None), ("over", 12, 3)))))

    def test_unlike_baskets(self):
        two = (((5, 3), (5, 3)), ())
        self.assertFalse(filled(two, 0) == filled(two, 1))
        self.assertFalse(filled(two, 0) == filled(two, 0, 0))
        self.assertTrue(filled(two, 0, 1) == filled(two, 1, 0))

    def test_other_objects(self):
        till = filled(SHOP, 0)
        for other in ODD_OBJECTS + (
                None, 0, 1, 5, "5", SHOP, (1,), [1], (SHOP, (1,)), nested(30, list), Till, 0.5):
            self.assertIs(till == other, False)
            self.assertIs(till != other, True)
        self.assertIs(till == till, True)


class AgainstTheCount(TillTest):
    def test_random_steps(self):
        source = random.Random(3)
        for shop in mixed_shops(60):
            till, baskets = Till(shop), [(0,) * len(shop[0])]
            for _ in range(40):
                self.step(source, shop, till, baskets)
                self.check(till, baskets[-1], plain_charge(shop, baskets[-1]))

    def step(self, source, shop, till, baskets):
        now = baskets[-1]
        good = source.randrange(len(now))
        what = source.choice(("put", "put", "put", "take", "take", "undo"))
        if what == "undo":
            if len(baskets) == 1:
                self.refuse(NothingToUndo, till.undo)
                return
            baskets.pop()
            self.assertEqual(till.undo(), baskets[-1])
            return
        if what == "take" and now[good] == 0:
            self.refuse(NotThere, till.take, good)
            return
        change = 1 if what == "put" else -1
        basket = tuple(pieces + change * (at == good) for at, pieces in enumerate(now))
        baskets.append(basket)
        more = plain_charge(shop, basket) - plain_charge(shop, now)
        self.assertEqual((till.put if change == 1 else till.take)(good), more)
