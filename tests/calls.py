"""Each function of the interface with right arguments, and what it raises if one of them is wrong."""

from sureprices.acts import are_acts, shop_under, touches
from sureprices.alike import exchangeable, parting_basket, same_charges
from sureprices.charges import amounts, charge, gain, uses
from sureprices.cures import (
    all_cheapest, are_offers, is_cure, least_price, price_of, sure_acts)
from sureprices.errors import (
    InvalidAct, InvalidActs, InvalidBasket, InvalidKinds, InvalidNumber, InvalidOffers, InvalidShop,
    ParseError)
from sureprices.faults import box, first_less, has_less, has_loss, is_fault, some_loss
from sureprices.greater import fewest_more, least_above
from sureprices.naive import naive_least_price, naive_less
from sureprices.papers import is_paper, paper
from sureprices.rules import effects, idle_rules
from sureprices.shops import is_basket, is_shop
from sureprices.texts import format_shop, parse_shop

from tests.act_samples import (
    OFF, WRONG_ACT, WRONG_ACTS, WRONG_KINDS, WRONG_NUMBERS, WRONG_OFFERS)
from tests.samples import ODD_OBJECTS, SHOP, WRONG_BASKETS, WRONG_SHOPS

OF_A_SHOP = (has_less, first_less, box, has_loss, some_loss, idle_rules, exchangeable, format_shop)
OF_A_BASKET = (amounts, charge, uses, gain, effects, least_above, fewest_more)
OF_A_VALUE = (is_basket, is_fault, are_acts, are_offers)
OF_KINDS = (least_price, all_cheapest, sure_acts, naive_least_price)
OF_TWO_SHOPS = (same_charges, parting_basket)

# None stands where any object is answered with True or False.
CALLS = (
    [(function, (SHOP,), (InvalidShop,)) for function in OF_A_SHOP]
    + [(function, (SHOP, (6,)), (InvalidShop, InvalidBasket)) for function in OF_A_BASKET]
    + [(function, (SHOP, ()), (InvalidShop, None)) for function in OF_A_VALUE]
    + [(function, (SHOP, OFF, ("loss",)), (InvalidShop, InvalidOffers, InvalidKinds))
       for function in OF_KINDS]
    + [(function, (SHOP, SHOP), (InvalidShop, InvalidShop)) for function in OF_TWO_SHOPS]
    + [(is_shop, (SHOP,), (None,)),
       (shop_under, (SHOP, (("off", 1),)), (InvalidShop, InvalidActs)),
       (touches, (SHOP, (("off", 1),), ("most", 0, 1), (6,)),
        (InvalidShop, InvalidActs, InvalidAct, InvalidBasket)),
       (price_of, (SHOP, OFF, (("off", 1),)), (InvalidShop, InvalidOffers, InvalidActs)),
       (is_cure, (SHOP, OFF, ("loss",), (("off", 1),)),
        (InvalidShop, InvalidOffers, InvalidKinds, InvalidActs)),
       (paper, (SHOP, OFF, ("loss",), 3),
        (InvalidShop, InvalidOffers, InvalidKinds, InvalidNumber)),
       (is_paper, (SHOP, OFF, ("loss",), 3, [((), ("dear",))]),
        (InvalidShop, InvalidOffers, InvalidKinds, InvalidNumber, None)),
       (naive_less, (SHOP, 2), (InvalidShop, InvalidNumber)),
       (parse_shop, ("5/3; over 12 3",), (ParseError,))])

WRONG = {
    InvalidShop: WRONG_SHOPS, InvalidActs: WRONG_ACTS, InvalidAct: WRONG_ACT,
    InvalidBasket: WRONG_BASKETS, InvalidOffers: WRONG_OFFERS, InvalidKinds: WRONG_KINDS,
    InvalidNumber: WRONG_NUMBERS,
    ParseError: ODD_OBJECTS + (None, 5, SHOP, b"5/3; none", ["5/3; none"], "5/3; none ")}
