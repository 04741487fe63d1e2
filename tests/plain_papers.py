"""A plain judge of papers, written from points 11 and 12, over counted baskets."""

from tests.plain import plain_charge, plain_gain
from tests.plain_faults import one_more, plain_touches, plain_under


def plain_total(offers, acts):
    return sum(price for act, price in offers if act in acts)


def plain_next(shop, offers, acts, fault):
    """The bought acts that must be there, too, since each one's last act touches the fault."""
    baskets = [fault[1]]
    if fault[0] == "less":
        baskets.append(one_more(fault[1], fault[2]))
    found = []
    for act, _ in offers:
        if act not in acts and any(plain_touches(shop, acts, act, basket) for basket in baskets):
            found.append(tuple(sorted(acts + (act,))))
    return found


def shows_fault(shop, acts, fault):
    left, _ = plain_under(shop, acts)
    if fault[0] == "loss":
        return plain_gain(left, fault[1]) < 0
    _, basket, good = fault
    return plain_charge(left, one_more(basket, good)) < plain_charge(left, basket)


def plain_is_paper(shop, offers, kinds, price, entries):
    """Whether a list of bought acts with reasons, all of a right form, is a paper."""
    bought = [acts for acts, _ in entries]
    if () not in bought or bought != sorted(set(bought)):
        return False
    for acts, reason in entries:
        if reason == ("dear",):
            if plain_total(offers, acts) < price:
                return False
            continue
        if reason[0] not in kinds or not shows_fault(shop, acts, reason):
            return False
        if not all(longer in bought for longer in plain_next(shop, offers, acts, reason)):
            return False
    return True
