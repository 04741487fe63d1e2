"""Offers of acts, bought acts and their price, and the cures among them.

Of the functions whose names end in `_of`, only price_of checks what it is passed.
"""

from sureprices.acts import is_act, is_ascending, left_under
from sureprices.errors import InvalidActs, InvalidKinds, InvalidOffers
from sureprices.faults import find_fault
from sureprices.shops import check_shop, is_between, is_tuple_of

MOST_OFFERS = 6
ALL_KINDS = (("less",), ("less", "loss"), ("loss",))


def is_offer(shop, value):
    """Return whether value is an act of the shop with its price."""
    if not is_tuple_of(value, 2):
        return False
    act, price = value
    return is_act(shop, act) and is_between(price, 1, 9)


def are_offers(shop, value):
    """Return whether value, which may be any object, are offers of a shop."""
    check_shop(shop)
    if not isinstance(value, tuple) or len(value) > MOST_OFFERS:
        return False
    if not all([is_offer(shop, offer) for offer in value]):
        return False
    # If the acts ascend, so do the offers; an act at two prices does not ascend.
    return is_ascending([act for act, _ in value])


def check_offers(shop, offers):
    """Raise InvalidShop if shop is not a shop, or InvalidOffers if offers are not ones of it."""
    if not are_offers(shop, offers):
        raise InvalidOffers("these are not offers of the shop")


def are_kinds(value):
    """Return whether value, which may be any object, is kinds of faults."""
    if not isinstance(value, tuple) or not all([isinstance(word, str) for word in value]):
        return False
    return value in ALL_KINDS


def check_kinds(kinds):
    """Raise InvalidKinds if kinds are not kinds of faults."""
    if not are_kinds(kinds):
        raise InvalidKinds("these are not kinds of faults")


def are_bought(shop, offers, value):
    """Return whether value, which may be any object, are bought acts of the offers."""
    if not isinstance(value, tuple) or not all([is_act(shop, act) for act in value]):
        return False
    offered = [act for act, _ in offers]
    return all([act in offered for act in value]) and is_ascending(value)


def check_bought(shop, offers, acts):
    """Raise InvalidActs if acts are not bought acts of the offers."""
    if not are_bought(shop, offers, acts):
        raise InvalidActs("these are not bought acts of the offers")


def total_of(offers, acts):
    """Return the price of bought acts."""
    return sum([price for act, price in offers if act in acts])


def all_bought_of(offers):
    """Return the list of all bought acts of the offers."""
    found = [()]
    for act, _ in offers:
        found = found + [acts + (act,) for acts in found]
    return found


def is_cure_of(shop, kinds, acts):
    """Return whether the shop under acts has no fault of the kinds in any basket."""
    return find_fault(left_under(shop, acts), kinds) is None


def cheapest_of(shop, offers, kinds):
    """Return the least price of a cure and the ascending list of the cures with it, or None, []."""
    least = None
    cures = []
    priced = sorted([(total_of(offers, bought), bought) for bought in all_bought_of(offers)])
    for price, acts in priced:
        if least is not None and price > least:
            break
        if is_cure_of(shop, kinds, acts):
            least = price
            cures.append(acts)
    return least, cures


def price_of(shop, offers, acts):
    """Return the price of bought acts."""
    check_offers(shop, offers)
    check_bought(shop, offers, acts)
    return total_of(offers, acts)


def is_cure(shop, offers, kinds, acts):
    """Return whether bought acts are a cure for kinds."""
    check_offers(shop, offers)
    check_kinds(kinds)
    check_bought(shop, offers, acts)
    return is_cure_of(shop, kinds, acts)


def checked_cheapest(shop, offers, kinds):
    """Return what cheapest_of returns, after the checks of the arguments."""
    check_offers(shop, offers)
    check_kinds(kinds)
    return cheapest_of(shop, offers, kinds)


def least_price(shop, offers, kinds):
    """Return the least price of a cure, or None if there is none."""
    least, _ = checked_cheapest(shop, offers, kinds)
    return least


def all_cheapest(shop, offers, kinds):
    """Return the ascending list of all cures with the least price."""
    _, cures = checked_cheapest(shop, offers, kinds)
    return cures


def sure_acts(shop, offers, kinds):
    """Return the ascending list of the acts in all cures with the least price."""
    _, cures = checked_cheapest(shop, offers, kinds)
    if len(cures) == 0:
        return []
    return [act for act, _ in offers if all([act in cure for cure in cures])]
