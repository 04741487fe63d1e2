"""Papers: why no bought acts below a price are a cure, in a form that a judge looks through.

Only check_asked, paper and is_paper check what they are passed.
"""

from sureprices.acts import is_ascending, left_under, touches_under
from sureprices.baskets import with_more
from sureprices.cures import are_bought, check_kinds, check_offers, total_of
from sureprices.errors import InvalidNumber
from sureprices.faults import find_fault, is_fault
from sureprices.shops import is_between, is_tuple_of

MOST_PRICE = 99
DEAR = ("dear",)


def check_asked(shop, offers, kinds, price):
    """Raise the exception of the first argument that is not what its name says."""
    check_offers(shop, offers)
    check_kinds(kinds)
    if not is_between(price, 0, MOST_PRICE):
        raise InvalidNumber("this is not an integer from 0 to 99")


def touches_fault(shop, acts, act, fault):
    """Return whether an act touches a fault under acts."""
    baskets = [fault[1]]
    if fault[0] == "less":
        baskets.append(with_more(fault[1], fault[2], 1))
    return any([touches_under(shop, acts, act, basket) for basket in baskets])


def bought_next(shop, offers, acts, fault):
    """Return the list of the bought acts with each further one that touches a fault under them."""
    further = [act for act, _ in offers if act not in acts]
    return [tuple(sorted(acts + (act,))) for act in further
            if touches_fault(shop, acts, act, fault)]


def find_reason(shop, offers, kinds, price, acts):
    """Return a right reason for bought acts, or None if they are a cure below the price."""
    if total_of(offers, acts) >= price:
        return DEAR
    return find_fault(left_under(shop, acts), kinds)


def find_paper(shop, offers, kinds, price):
    """Return a paper, or None if there is none."""
    reasons = {}
    waiting = [()]
    while len(waiting) > 0:
        acts = waiting.pop()
        if acts in reasons:
            continue
        reason = find_reason(shop, offers, kinds, price, acts)
        if reason is None:
            return None
        reasons[acts] = reason
        if reason != DEAR:
            waiting.extend(bought_next(shop, offers, acts, reason))
    return sorted(reasons.items())


def are_entries(shop, offers, value):
    """Return whether value is an ascending list of bought acts, each once, with one item more."""
    if not isinstance(value, list) or not all([is_tuple_of(entry, 2) for entry in value]):
        return False
    bought = [acts for acts, _ in value]
    # No acts stand there twice, so reasons, which may still be anything, are not compared.
    return all([are_bought(shop, offers, acts) for acts in bought]) and is_ascending(bought)


def is_reason(shop, offers, kinds, price, acts, value):
    """Return whether value, which may be any object, is a right reason for bought acts."""
    if not isinstance(value, tuple) or len(value) == 0:
        return False
    word = value[0]
    # An object of another kind may answer a comparison with anything.
    if not isinstance(word, str):
        return False
    if word == "dear":
        return len(value) == 1 and total_of(offers, acts) >= price
    return word in kinds and is_fault(left_under(shop, acts), value)


def leads_into(shop, offers, acts, reason, reasons):
    """Return whether all bought acts that a right reason asks for are among the reasons."""
    if reason == DEAR:
        return True
    return all([longer in reasons for longer in bought_next(shop, offers, acts, reason)])


def paper(shop, offers, kinds, price):
    """Return a paper that no cure for the kinds has a lesser price, or None if one has."""
    check_asked(shop, offers, kinds, price)
    return find_paper(shop, offers, kinds, price)


def is_paper(shop, offers, kinds, price, value):
    """Return whether value, which may be any object, is a paper for kinds and a price."""
    check_asked(shop, offers, kinds, price)
    if not are_entries(shop, offers, value):
        return False
    reasons = {acts: reason for acts, reason in value}
    if () not in reasons:
        return False
    if not all([is_reason(shop, offers, kinds, price, acts, reason) for acts, reason in value]):
        return False
    return all([leads_into(shop, offers, acts, reason, reasons) for acts, reason in value])
