"""Shops, baskets and wrong values that several tests share."""

import itertools
import random

SHOP = (((5, 3),), (("pack", 0, 3, 9, None), ("over", 12, 3)))
PAIR = (((5, 3), (2, 1)), (("from", 1, 4, 1), ("pack", 0, 2, 7, 1), ("each", 6, 3, None)))

# The over rule is reached, by what the three before leave, from 71 pieces on.
LATE_SHOP = (((1, 0),), (("each", 2, 1, None), ("each", 6, 6, 2), ("each", 6, 6, 2),
                         ("over", 12, 6)))

ONE_GOOD = ((5, 3),)
TWO_GOODS = ((5, 3), (2, 1))


class Agreeable:
    """An object that says that it is equal to everything."""

    def __eq__(self, other):
        return True

    def __hash__(self):
        return 0


class Touchy:
    """An object that can be neither compared, nor counted, nor asked whether it is true."""

    def fail(self, *rest):
        raise RuntimeError("this object must not be asked")

    __eq__ = __lt__ = __le__ = __gt__ = __ge__ = __len__ = __bool__ = __iter__ = fail
    __getitem__ = __hash__ = __repr__ = __str__ = __int__ = __index__ = fail


def nested(depth, kind):
    value = kind()
    for _ in range(depth - 1):
        value = kind([value])
    return value


# Objects that are never a shop, a good, a rule, a basket or a part of one except, for None, a most.
ODD_OBJECTS = (
    True, False, "", "pack", "from", "over", "each", "5", b"", b"pack", (), [], {}, set(),
    frozenset(), {0: 1}, {"pack": 1}, {5}, [5], (5,), (None,), ((),), 10 ** 6 + 1, -1, -10 ** 5000,
    10 ** 5000, 3j, object(), Agreeable(), Touchy(), int, tuple, len, range(3), iter(()),
    bytearray(b"5"), Ellipsis, NotImplemented, nested(30, tuple), nested(30, list),
    ((5, 3), (("pack", 0, 3, 9, None),)))

# Objects that are not a shop.
WRONG_SHOPS = ODD_OBJECTS + (
    None, 5, list(SHOP), (list(SHOP[0]), SHOP[1]), (SHOP[0], list(SHOP[1])), SHOP[:1],
    SHOP + ((),), (SHOP,), (SHOP[1], SHOP[0]), SHOP[0], SHOP[1], ((), ()), (((5, 3),), None),
    (None, ()), {"goods": SHOP[0], "rules": SHOP[1]}, ((5, 3), ()))

# Objects that are not a basket of SHOP.
WRONG_BASKETS = tuple(value for value in ODD_OBJECTS if value.__class__ is not tuple) + (
    None, 4, [4], (), (4, 0), (4, 0, 0), (True,), (False,), (None,), ("4",), (b"4",), ((4,),),
    ([4],), (-1,), (10 ** 6 + 1,), (10 ** 5000,), (-10 ** 5000,), nested(30, tuple), (3j,),
    (Agreeable(),), (Touchy(),), SHOP)


def rules_on_goods(good):
    """Rules on a good, of each form, with small and with large numbers."""
    packs = [("pack", good, size, price, most) for size, price in ((2, 2), (2, 7), (3, 9), (3, 30))
             for most in (1, 2, None)]
    return packs + [("from", good, least, price) for least, price in ((2, 9), (3, 1), (4, 4))]


def rules_on_sums():
    """Rules on sums, of each form, with small and with large numbers."""
    overs = [("over", full, off) for full, off in ((2, 1), (2, 2), (7, 6), (12, 3), (12, 6))]
    each = [("each", full, off, most) for full, off in ((2, 1), (3, 3), (5, 2), (6, 6), (6, 3))
            for most in (1, 2)]
    endless = [("each", full, off, None) for full, off in ((2, 1), (3, 1), (5, 2), (6, 3))]
    return overs + each + endless


def can_stand_together(rules):
    return len([rule for rule in rules if rule[0] == "each" and rule[3] is None]) <= 1


def shops_of_one_good():
    """Shops with every rule alone, and with every two of them, in both orders."""
    rules = rules_on_goods(0) + rules_on_sums()
    yield (((5, 3),), ())
    for rule in rules:
        yield (((5, 3),), (rule,))
    for couple in itertools.product(rules, repeat=2):
        if can_stand_together(couple):
            yield (((4, 9),), couple)


def mixed_shops(many):
    """Shops of two goods, some of one, with up to four rules; the same ones in every run."""
    source = random.Random(20)
    for _ in range(many):
        goods = tuple((source.randint(1, 9), source.randint(0, 9))
                      for _ in range(source.choice((1, 2, 2))))
        choice = rules_on_sums()
        for good in range(len(goods)):
            choice = choice + rules_on_goods(good)
        rules = tuple(source.choice(choice) for _ in range(source.randint(0, 4)))
        if can_stand_together(rules):
            yield (goods, rules)


def small_baskets(shop, most):
    return itertools.product(range(most + 1), repeat=len(shop[0]))
