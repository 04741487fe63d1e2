"""Rules of a shop, each for itself: whether it is ever used, and what it does to a charge."""

from sureprices.charges import SUM_WORDS, charge_of, fitting_rule
from sureprices.shops import check_basket, check_shop


def is_idle(rules, number):
    """Return whether a rule is used in no basket; the rules are not checked."""
    rule = rules[number]
    # What the rules before leave grows beyond all bounds, so each rule on sums takes some time.
    if rule[0] in SUM_WORDS:
        return False
    # What fits before it on the fewest pieces that it fits also fits before it on more.
    return fitting_rule(rules, rule[1], rule[2]) != number


def without_rule(shop, number):
    """Return the shop without a rule."""
    goods, rules = shop
    return (goods, rules[:number] + rules[number + 1:])


def idle_rules(shop):
    """Return the ascending list of the numbers of the rules that are used in no basket."""
    check_shop(shop)
    rules = shop[1]
    return [number for number in range(len(rules)) if is_idle(rules, number)]


def effects(shop, basket):
    """Return the list of how much more the basket would be charged without each of the rules."""
    check_basket(shop, basket)
    charged = charge_of(shop, basket)
    return [charge_of(without_rule(shop, number), basket) - charged
            for number in range(len(shop[1]))]
