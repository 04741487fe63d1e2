"""Acts, offers, kinds and faults, right and wrong ones, that several tests share."""

import random

from tests.samples import ODD_OBJECTS, SHOP, Agreeable, Touchy, nested

OFF = ((("most", 0, 1), 2), (("off", 0), 4), (("off", 1), 3))

# A shop with eleven acts.
FULL = (((5, 3),), (("pack", 0, 2, 7, None), ("pack", 0, 3, 9, None), ("pack", 0, 2, 8, 2),
                    ("each", 6, 3, None)))
FULL_ACTS = (
    ("most", 0, 1), ("most", 0, 2), ("most", 1, 1), ("most", 1, 2), ("most", 2, 1),
    ("most", 3, 1), ("most", 3, 2), ("off", 0), ("off", 1), ("off", 2), ("off", 3))

KINDS = (("less",), ("loss",), ("less", "loss"))

# The first fault "less" lies at 32 pieces.
FAR_SHOP = (((1, 0),), (("each", 4, 3, 2), ("each", 2, 1, None), ("each", 2, 1, 2),
                        ("over", 12, 2)))

# The first basket that is charged less than it costs has more than 200 pieces.
SINKING_SHOP = (((1, 1),), (("pack", 0, 2, 30, 2), ("each", 6, 1, None)))

# Objects that are not an act of SHOP.
WRONG_ACT = tuple(value for value in ODD_OBJECTS) + (
    None, 0, "off", "most", ("off",), ("most",), ("most", 0), ("off", 2), ("off", -1),
    ("off", True), ("off", False), ("off", None), ("off", "0"), ("off", (0,)), ("off", 0, 1),
    ("off", 0, 0), ("most", 0, 0), ("most", 0, 3), ("most", 0, -1), ("most", 0, None),
    ("most", 0, True), ("most", False, 1), ("most", 0, (1,)), ("most", 0, "1"), ("most", 0, 1, 1),
    ("most", 1, 1), ("most", 2, 1), ("most", -1, 1), ["off", 0], ["most", 0, 1], (b"off", 0),
    ("OFF", 0), ("on", 0), ("", 0), ("on", 0, 1), ("", 0, 1), (b"most", 0, 1),
    (Agreeable(), 0), (Agreeable(), 0, 1), (Touchy(), 0), ("off", Agreeable()), ("off", Touchy()),
    ("most", 0, Agreeable()), ("most", 0, Touchy()), ("most", Touchy(), 1), (None, 0), (0, "off"), ("off", 10 ** 5000), (["off"], 0),
    ("off", nested(28, list)), ("off", [0]), (("off", 0),), ("over", 12, 3), ("pack", 0, 3, 9, None))

# Objects that are not acts of SHOP.
WRONG_ACTS = tuple(value for value in ODD_OBJECTS if value.__class__ is not tuple) + (
    None, 0, ("off", 0), ("most", 0, 1), [], [("off", 0)], {("off", 0): 1}, (("off", 0), None),
    (("off", 0), ("off", 0)), (("off", 1), ("off", 0)), (("off", 0), ("most", 0, 1)),
    (("most", 0, 2), ("most", 0, 1)), (("most", 0, 1), ("most", 0, 1)),
    (("most", 0, 1), ("off", 0), ("off", 1), ("off", 2)), nested(30, tuple), SHOP, OFF) + tuple(
        (act,) for act in WRONG_ACT)

# Objects that are not offers of SHOP.
WRONG_OFFERS = tuple(value for value in ODD_OBJECTS if value.__class__ is not tuple) + (
    None, 0, list(OFF), [], OFF[0], (OFF,), (list(OFF[0]),), (OFF[0], list(OFF[1])), OFF[::-1],
    (OFF[0], OFF[0]), ((("off", 0), 3), (("off", 0), 4)), ((("off", 0), 4), (("off", 0), 3)),
    (OFF[0], OFF[2], OFF[1]), OFF + (None,), (("off", 0),), (("off", 0), 1), ((("off", 0),),),
    ((("off", 0), 1, 1),), ((1, ("off", 0)),), SHOP, nested(30, tuple)) + tuple(
        ((("off", 0), price),) for price in
        (0, 10, -1, True, False, None, "1", (1,), [1], 10 ** 5000, nested(27, tuple), Agreeable(),
         Touchy())) + tuple(
            ((act, 1),) for act in WRONG_ACT)

# Objects that are not kinds.
WRONG_KINDS = ODD_OBJECTS + (
    None, 0, "less", "loss", ["less"], ["loss"], ["less", "loss"], ("less", "less"),
    ("loss", "loss"), ("loss", "less"), ("less", "loss", "loss"), ("less", "less", "loss"),
    ("least",), ("LESS",), ("",), ("less", ""), ("less", "more"), ("less", None), ("less", 0),
    ("less", True), (b"less",), (("less",),), (["less"],), ("lessloss",), {"less": 1}, ("l", "e"),
    (Agreeable(),), ("less", Agreeable()), (Agreeable(), "loss"), (Touchy(),), ("less", Touchy()))


# Objects that are not an integer from 0 to 99, nor the number of a good.
WRONG_NUMBERS = ODD_OBJECTS + (
    None, 100, 1000, -100, "0", "1", b"1", (0,), (1,), [1], (None,), {1: 1}, SHOP, nested(29, list),
    10 ** 400)


def acts_of(shop):
    """All acts of a shop, ascending."""
    found = [("off", number) for number in range(len(shop[1]))]
    for number, rule in enumerate(shop[1]):
        if rule[0] in ("pack", "each"):
            found += [("most", number, most) for most in (1, 2) if rule[-1] is None or most < rule[-1]]
    return sorted(found)


def some_acts(source, shop):
    """Some acts of a shop, at most eight."""
    found = acts_of(shop)
    return tuple(sorted(source.sample(found, source.randint(0, min(8, len(found))))))


def some_offers(source, shop, most):
    found = acts_of(shop)
    acts = sorted(source.sample(found, min(len(found), source.randint(0, most))))
    return tuple((act, source.randint(1, 9)) for act in acts)


def new_source():
    """A source of the same choices in every run."""
    return random.Random(7)
