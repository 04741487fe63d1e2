"""Which values are papers: entries taken out, exchanged, added, and values of a wrong form."""

import unittest

from sureprices.papers import is_paper, paper

from tests.act_samples import FULL, FULL_ACTS, KINDS, OFF, WRONG_ACTS, new_source, some_offers
from tests.plain_papers import plain_is_paper
from tests.samples import ODD_OBJECTS, SHOP, Agreeable, Touchy, mixed_shops, nested

MILLION = 10 ** 6
MOST, OFF_PACK, OFF_SUM = ("most", 0, 1), ("off", 0), ("off", 1)
DEAR = ("dear",)

# A paper that no cure for faults "less" in SHOP costs less than 4.
NONE_OFF = ((), ("less", (2,), 0))
NO_PACK = ((OFF_PACK,), DEAR)
RIGHT = [NONE_OFF, NO_PACK]

# The same with a fault that more acts touch.
FAR = ("less", (5,), 0)
LONG = [((), FAR), ((MOST,), ("less", (2,), 0)), ((MOST, OFF_PACK), DEAR), ((OFF_PACK,), DEAR),
        ((OFF_SUM,), ("less", (2,), 0)), ((OFF_PACK, OFF_SUM), DEAR)]


class IsPaperTest(unittest.TestCase):
    def is_one(self, value, kinds=("less",), price=4, shop=SHOP, offers=OFF):
        self.assertIs(is_paper(shop, offers, kinds, price, value), True, value)

    def is_none(self, value, kinds=("less",), price=4, shop=SHOP, offers=OFF):
        self.assertIs(is_paper(shop, offers, kinds, price, value), False)


class Entries(IsPaperTest):
    def test_example(self):
        self.is_none([NONE_OFF], price=1)
        self.assertIs(
            is_paper(shop=SHOP, offers=OFF, kinds=("less",), price=1, value=[NONE_OFF]), False)

    def test_right(self):
        for price in range(5):
            self.is_one(RIGHT, price=price)
        self.is_none(RIGHT, price=5)
        self.is_none(RIGHT, price=99)
        self.is_one(sorted(LONG))
        self.is_one(sorted(LONG), kinds=("less", "loss"))

    def test_one_taken_out(self):
        for entries in (RIGHT, sorted(LONG)):
            for place in range(len(entries)):
                self.is_none(entries[:place] + entries[place + 1:])
        self.is_none([])

    def test_price_nothing(self):
        self.is_one([((), DEAR)], price=0)
        self.is_none([((), DEAR)], price=1)
        self.is_none([], price=0)
        self.is_none([NO_PACK], price=0)

    def test_no_offers(self):
        self.is_one([NONE_OFF], offers=(), price=99)
        self.is_one([NONE_OFF], offers=(), price=0)
        self.is_none(RIGHT, offers=())
        self.is_one([((), DEAR)], offers=(), price=0)
        self.is_none([((), DEAR)], offers=(), price=1)

    def test_only_touching_acts_lead_on(self):
        # Neither a most of one pack nor the rule on sums changes a basket of two or three pieces.
        self.is_one([NONE_OFF], offers=OFF[:1], price=99)
        self.is_one([NONE_OFF], offers=OFF[2:], price=99)
        self.is_one([((), ("less", (2,), 0)), ((OFF_PACK,), DEAR)], price=4)
        # The piece more is touched, the basket is not.
        shop = (((3, 0),), (("over", 6, 4),))
        offers = ((("off", 0), 4),)
        self.is_none([((), ("less", (1,), 0))], price=4, shop=shop, offers=offers)
        self.is_one([((), ("less", (1,), 0)), ((("off", 0),), DEAR)], shop=shop, offers=offers)
        # The basket is touched, the piece more is not: a rule that needs two pieces at most.
        shop = (((9, 0),), (("from", 0, 3, 1), ("pack", 0, 2, 9, None)))
        offers = ((("off", 1), 4),)
        self.is_none([((), ("less", (2,), 0))], shop=shop, offers=offers)
        self.is_one([((), ("less", (2,), 0)), ((("off", 1),), DEAR)], shop=shop, offers=offers)

    def test_loss(self):
        for basket, bought in (((4,), [(OFF_PACK,), (OFF_SUM,)]),
                               ((6,), [(MOST,), (OFF_PACK,), (OFF_SUM,)])):
            entries = [((), ("loss", basket))]
            for acts in bought:
                self.is_none(sorted(entries), kinds=("loss",), price=2)
                entries.append((acts, DEAR))
            self.is_one(sorted(entries), kinds=("loss",), price=2)
            self.is_one(sorted(entries), kinds=("less", "loss"), price=2)
            self.is_none(sorted(entries), kinds=("less",), price=2)


class Reasons(IsPaperTest):
    def test_exchanged_for_dear(self):
        self.is_none([((), DEAR), NO_PACK])
        for place, (acts, reason) in enumerate(sorted(LONG)):
            entries = sorted(LONG)
            entries[place] = (acts, DEAR)
            dear = reason == DEAR
            self.assertIs(is_paper(SHOP, OFF, ("less",), 4, entries), dear)

    def test_dear_at_the_price(self):
        entries = [((), ("loss", (4,))), ((OFF_PACK,), DEAR), ((OFF_SUM,), DEAR)]
        self.is_one(entries, kinds=("loss",), price=3)
        self.is_none(entries, kinds=("loss",), price=4)

    def test_exchanged_for_another_fault(self):
        self.is_one([((), ("less", (8,), 0)), ((MOST,), DEAR), NO_PACK, ((OFF_SUM,), DEAR)], price=2)
        self.is_none([((), ("less", (5,), 0)), NO_PACK])
        self.is_none([((), ("less", (3,), 0)), NO_PACK])
        self.is_none([((), ("less", (2,), 1)), NO_PACK])
        self.is_none([NONE_OFF, ((OFF_PACK,), ("less", (2,), 0))], price=1)

    def test_a_fault_may_stand_where_the_price_is_reached(self):
        self.is_one([((), ("less", (2,), 0)), NO_PACK], price=0)
        self.is_one([((), ("less", (2,), 0)), ((MOST,), ("less", (2,), 0)),
                     ((MOST, OFF_PACK), DEAR), NO_PACK], price=1)
        self.is_none([((), ("less", (2,), 0)), ((MOST,), ("less", (2,), 0)), NO_PACK], price=1)

    def test_a_fault_under_the_acts(self):
        # With one pack at most, the charges are 0, 5, 10, 9, 11, 16, 21.
        self.is_none([NONE_OFF, ((MOST,), ("less", (5,), 0)), ((MOST, OFF_PACK), DEAR), NO_PACK])
        self.is_one([NONE_OFF, ((MOST,), ("less", (2,), 0)), ((MOST, OFF_PACK), DEAR), NO_PACK])

    def test_a_kind_that_was_not_asked(self):
        entries = [((), ("loss", (4,))), ((OFF_PACK,), DEAR), ((OFF_SUM,), DEAR)]
        self.is_one(entries, kinds=("loss",), price=3)
        self.is_none(entries, kinds=("less",), price=3)
        self.is_none(RIGHT, kinds=("loss",))

    def test_wrong_forms(self):
        reasons = (
            None, "dear", "less", ["dear"], [], (), ("dear", 0), ("dear", ()), ("DEAR",), ("",),
            ("cheap",), (None,), (True,), ("less",), ("less", (2,)), ["less", (2,), 0],
            ("less", [2], 0), ("less", (2,), 0, 0), ("less", (2,), False), ("less", (True,), 0),
            ("less", (2,), None), ("less", (2,), "0"), ("less", ("2",), 0), ("less", 2, 0),
            ("less", (2, 0), 0), ("less", (), 0), ("less", (-1,), 0), ("less", None, 0),
            ("lesser", (2,), 0), (b"less", (2,), 0), (("less",), (2,), 0), ("dear", (2,), 0),
            ("loss", (4,)), ("loss", (2,), 0), (Agreeable(),), (Touchy(),), (Agreeable(), (2,), 0),
            ("less", Agreeable(), 0), ("less", (2,), Agreeable()), ("less", (Touchy(),), 0),
            Agreeable(), Touchy(), nested(28, tuple), nested(28, list), (nested(27, tuple),),
            ("less", nested(27, tuple), 0), ("less", (MILLION + 2,), 0), ("less", (10 ** 5000,), 0))
        for reason in reasons + ODD_OBJECTS:
            self.is_none([((), reason), NO_PACK])
            self.is_none([NONE_OFF, ((OFF_PACK,), reason)])
            self.is_none([NONE_OFF, ((MOST,), reason), ((MOST, OFF_PACK), DEAR), NO_PACK])

    def test_baskets_of_any_size(self):
        # Faults may lie in all baskets, and these have any number of pieces (point 2).
        rest = [((MOST,), DEAR), NO_PACK, ((OFF_SUM,), DEAR)]
        for pieces in (5, MILLION - 2, MILLION + 1, 3 * 10 ** 40 + 2):
            self.is_one([((), ("less", (pieces,), 0))] + rest, price=2)
            self.is_none([((), ("less", (pieces + 1,), 0))] + rest, price=2)
            for place in range(len(rest)):
                entries = [((), ("less", (pieces,), 0))] + rest[:place] + rest[place + 1:]
                self.is_none(entries, price=2)


class Further(IsPaperTest):
    def test_right_ones(self):
        self.is_one(RIGHT + [((OFF_PACK, OFF_SUM), DEAR)])
        self.is_one([NONE_OFF, ((MOST, OFF_PACK, OFF_SUM), DEAR), ((MOST, OFF_SUM), DEAR), NO_PACK])
        self.is_one([NONE_OFF, ((MOST,), ("less", (2,), 0)), ((MOST, OFF_PACK), DEAR), NO_PACK])

    def test_wrong_ones(self):
        self.is_none([NONE_OFF, ((MOST,), DEAR), NO_PACK])
        self.is_none(RIGHT + [((OFF_PACK, OFF_SUM), ("less", (2,), 0))])
        self.is_none([NONE_OFF, ((MOST,), None), NO_PACK])
        self.is_none([NONE_OFF, NO_PACK, ((OFF_SUM,), DEAR)])

    def test_further_faults_lead_on(self):
        self.is_none([NONE_OFF, ((MOST,), ("less", (2,), 0)), NO_PACK])
        self.is_none([NONE_OFF, NO_PACK, ((OFF_SUM,), ("less", (2,), 0))])
        self.is_one([NONE_OFF, NO_PACK, ((OFF_PACK, OFF_SUM), DEAR),
                     ((OFF_SUM,), ("less", (2,), 0))])

    def test_an_act_that_makes_a_fault(self):
        shop = (((5, 0), (5, 0)), (("from", 0, 2, 5), ("pack", 0, 3, 9, None),
                                   ("pack", 1, 3, 9, None)))
        offers = ((("off", 0), 1), (("off", 1), 1), (("off", 2), 3))
        one, two, three = ("off", 0), ("off", 1), ("off", 2)
        needed = [((), ("less", (0, 2), 1)), ((three,), DEAR)]
        self.is_one(needed, price=3, shop=shop, offers=offers)
        new = ((one,), ("less", (2, 0), 0))
        self.is_none(sorted(needed + [new]), price=3, shop=shop, offers=offers)
        both = ((one, two), ("less", (0, 2), 1))
        self.is_none(sorted(needed + [new, both]), price=3, shop=shop, offers=offers)
        all_three = ((one, two, three), DEAR)
        self.is_one(sorted(needed + [new, both, all_three]), price=3, shop=shop, offers=offers)
        wrong = ((), ("less", (2, 0), 0))
        self.is_none([wrong, ((two,), ("less", (0, 2), 1)), ((two, three), DEAR)],
                     price=3, shop=shop, offers=offers)


class WrongForms(IsPaperTest):
    def test_no_list(self):
        for value in ODD_OBJECTS + (None, "paper", tuple(RIGHT), dict(RIGHT), RIGHT[0], DEAR,
                                    nested(30, tuple), nested(30, list), (tuple(RIGHT),)):
            self.is_none(value)
            self.is_none(value, price=0)

    def test_entries(self):
        for entry in ODD_OBJECTS + (
                None, list(NO_PACK), NO_PACK + (None,), NO_PACK[:1], ((OFF_PACK,),), "ab",
                [(OFF_PACK,), DEAR], (DEAR, (OFF_PACK,)), RIGHT, nested(29, tuple)):
            self.is_none([NONE_OFF, entry])
            self.is_none([NONE_OFF, NO_PACK, entry])
            self.is_none([entry, NONE_OFF, NO_PACK])
        self.is_none([list(NONE_OFF), NO_PACK])

    def test_twice(self):
        self.is_none([NONE_OFF, NONE_OFF, NO_PACK])
        self.is_none([NONE_OFF, NO_PACK, NO_PACK])
        self.is_none([((), ("less", (2,), 0)), ((), ("less", (5,), 0)), ((MOST,), DEAR),
                      ((OFF_PACK,), DEAR), ((OFF_SUM,), DEAR)], price=2)

    def test_not_ascending(self):
        self.is_none(RIGHT[::-1])
        entries = sorted(LONG)
        for place in range(len(entries) - 1):
            turned = list(entries)
            turned[place], turned[place + 1] = turned[place + 1], turned[place]
            self.is_none(turned)

    def test_bought_acts(self):
        for acts in WRONG_ACTS:
            self.is_none([NONE_OFF, (acts, DEAR), NO_PACK])
            self.is_none([NONE_OFF, NO_PACK, (acts, DEAR)])
            self.is_none([(acts, DEAR)], price=0)
        self.is_none([NONE_OFF, NO_PACK, ([OFF_SUM], DEAR)])
        self.is_none([NONE_OFF, NO_PACK, ((OFF_SUM, OFF_PACK), DEAR)])
        self.is_none([NONE_OFF, ((("most", 0, 2), OFF_PACK), DEAR), NO_PACK])
        self.is_none([NONE_OFF, NO_PACK], offers=OFF[:1] + OFF[2:])
        self.is_none([NONE_OFF, ((OFF[1],), DEAR)])


class AgainstThePlainJudge(IsPaperTest):
    def agree(self, shop, offers, kinds, price, entries):
        self.assertEqual(is_paper(shop, offers, kinds, price, entries),
                         plain_is_paper(shop, offers, kinds, price, entries),
                         (shop, offers, kinds, price, entries))

    def some_reason(self, source, shop):
        basket = tuple(source.randint(0, 8) for _ in shop[0])
        return source.choice(
            (DEAR, ("loss", basket), ("less", basket, source.randrange(len(basket)))))

    def some_bought(self, source, offers):
        return tuple(act for act, _ in offers if source.random() < 0.4)

    def check_changed(self, source, shop, offers, kinds, price):
        entries = paper(shop, offers, kinds, price)
        if entries is None:
            entries = [((), ("less", (2,) * len(shop[0]), 0))]
        for place in range(len(entries)):
            self.agree(shop, offers, kinds, price, entries[:place] + entries[place + 1:])
            changed = list(entries)
            changed[place] = (entries[place][0], self.some_reason(source, shop))
            self.agree(shop, offers, kinds, price, changed)
        for _ in range(6):
            more = dict(entries)
            for _ in range(source.randint(1, 3)):
                more[self.some_bought(source, offers)] = self.some_reason(source, shop)
            self.agree(shop, offers, kinds, price, sorted(more.items()))

    def test_changed_papers(self):
        source = new_source()
        for shop in mixed_shops(150):
            offers = some_offers(source, shop, 5)
            for kinds in KINDS:
                self.check_changed(source, shop, offers, kinds, source.randint(0, 15))

    def test_full_shop(self):
        source = new_source()
        for acts in (FULL_ACTS[:6], FULL_ACTS[5:]):
            offers = tuple((act, 2) for act in acts)
            for kinds in KINDS:
                self.check_changed(source, FULL, offers, kinds, 6)
