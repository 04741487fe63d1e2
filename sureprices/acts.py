"""Acts, which switch rules off or use them less often, and the shop under acts.

Only are_acts, check_acts, shop_under and touches check whether the shop is one.
"""

from sureprices.charges import uses_of
from sureprices.errors import InvalidAct, InvalidActs
from sureprices.shops import check_basket, check_shop, is_between, is_tuple_of

MOST_ACTS = 8


def is_ascending(values):
    """Return whether values of one kind ascend, without repetitions."""
    return all([one < other for one, other in zip(values, values[1:])])


def is_most_act(shop, value):
    """Return whether a tuple that begins with "most" is an act of the shop."""
    rules = shop[1]
    if not is_tuple_of(value, 3) or not is_between(value[1], 0, len(rules) - 1):
        return False
    rule = rules[value[1]]
    if rule[0] not in ("pack", "each"):
        return False
    return is_between(value[2], 1, 2) and (rule[-1] is None or value[2] < rule[-1])


def is_act(shop, value):
    """Return whether value, which may be any object, is an act of the shop."""
    if not isinstance(value, tuple) or len(value) == 0:
        return False
    word = value[0]
    # An object of another kind may answer a comparison with anything.
    if not isinstance(word, str):
        return False
    if word == "off":
        return is_tuple_of(value, 2) and is_between(value[1], 0, len(shop[1]) - 1)
    return word == "most" and is_most_act(shop, value)


def are_acts(shop, value):
    """Return whether value, which may be any object, are acts of a shop."""
    check_shop(shop)
    if not isinstance(value, tuple) or len(value) > MOST_ACTS:
        return False
    return all([is_act(shop, act) for act in value]) and is_ascending(value)


def check_acts(shop, acts):
    """Raise InvalidShop if shop is not a shop, or InvalidActs if acts are not acts of it."""
    if not are_acts(shop, acts):
        raise InvalidActs("these are not acts of the shop")


def numbers_under(shop, acts):
    """Return the list of the numbers of the rules that the acts do not switch off."""
    return [number for number in range(len(shop[1])) if ("off", number) not in acts]


def rule_under(shop, acts, number):
    """Return a rule with the least most that it has or that the acts tell for it."""
    rule = shop[1][number]
    mosts = [act[2] for act in acts if act[:2] == ("most", number)]
    if len(mosts) == 0:
        return rule
    # What an act tells is less than what the rule has.
    return rule[:-1] + (min(mosts),)


def left_under(shop, acts):
    """Return the shop under acts."""
    numbers = numbers_under(shop, acts)
    return (shop[0], tuple([rule_under(shop, acts, number) for number in numbers]))


def uses_under(shop, acts, number, basket):
    """Return how often a rule of the shop is used in a basket under acts."""
    numbers = numbers_under(shop, acts)
    if number not in numbers:
        return 0
    return uses_of(left_under(shop, acts), basket)[numbers.index(number)]


def touches_under(shop, acts, act, basket):
    """Return whether an act touches a basket of any size under acts."""
    used = uses_under(shop, acts, act[1], basket)
    return used > 0 if act[0] == "off" else used > act[2]


def shop_under(shop, acts):
    """Return the shop under acts."""
    check_acts(shop, acts)
    return left_under(shop, acts)


def touches(shop, acts, act, basket):
    """Return whether an act touches a basket under acts."""
    check_acts(shop, acts)
    if not is_act(shop, act):
        raise InvalidAct("this is not an act of the shop")
    check_basket(shop, basket)
    return touches_under(shop, acts, act, basket)
