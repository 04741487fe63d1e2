"""Shops and baskets: what is one, and the checks that other functions begin with."""

from sureprices.errors import InvalidBasket, InvalidShop

MOST_GOODS = 2
MOST_RULES = 4
MOST_PIECES = 1000000


def is_integer(value):
    """Return whether value is an integer."""
    # Python counts True and False as integers, the document does not.
    return isinstance(value, int) and not isinstance(value, bool)


def is_between(value, low, high):
    """Return whether value is an integer from low to high."""
    return is_integer(value) and low <= value <= high


def is_tuple_of(value, length):
    """Return whether value is a tuple of so many items."""
    return isinstance(value, tuple) and len(value) == length


def is_most(value):
    """Return whether value can be the most of a rule."""
    return value is None or is_between(value, 1, 2)


def is_good(value):
    """Return whether value is a good: its price and its cost."""
    if not is_tuple_of(value, 2):
        return False
    price, cost = value
    return is_between(price, 1, 9) and is_between(cost, 0, 9)


def is_pack(value, many_goods):
    """Return whether a tuple that begins with "pack" is a rule."""
    if not is_tuple_of(value, 5):
        return False
    _, good, size, price, most = value
    return (is_between(good, 0, many_goods - 1) and is_between(size, 2, 3)
            and is_between(price, size, 30) and is_most(most))


def is_from(value, many_goods):
    """Return whether a tuple that begins with "from" is a rule."""
    if not is_tuple_of(value, 4):
        return False
    _, good, least, price = value
    return (is_between(good, 0, many_goods - 1) and is_between(least, 2, 4)
            and is_between(price, 1, 9))


def is_over(value):
    """Return whether a tuple that begins with "over" is a rule."""
    if not is_tuple_of(value, 3):
        return False
    _, full, off = value
    return is_between(full, 2, 12) and is_between(off, 1, min(6, full))


def is_each(value):
    """Return whether a tuple that begins with "each" is a rule."""
    if not is_tuple_of(value, 4):
        return False
    _, full, off, most = value
    if not is_between(full, 2, 6) or not is_between(off, 1, full):
        return False
    return is_most(most) and (most is not None or 2 * off <= full)


def is_rule(value, many_goods):
    """Return whether value is a rule of a shop with so many goods."""
    if not isinstance(value, tuple) or len(value) == 0:
        return False
    word = value[0]
    # An object of another kind may answer a comparison with anything.
    if not isinstance(word, str):
        return False
    if word == "pack":
        return is_pack(value, many_goods)
    if word == "from":
        return is_from(value, many_goods)
    if word == "over":
        return is_over(value)
    return word == "each" and is_each(value)


def is_endless_each(rule):
    """Return whether a rule is an each rule that is used however often it fits."""
    return rule[0] == "each" and rule[3] is None


def are_goods(value):
    """Return whether value is the goods of a shop."""
    if not isinstance(value, tuple) or not 1 <= len(value) <= MOST_GOODS:
        return False
    return all([is_good(good) for good in value])


def are_rules(value, many_goods):
    """Return whether value is the rules of a shop with so many goods."""
    if not isinstance(value, tuple) or len(value) > MOST_RULES:
        return False
    if not all([is_rule(rule, many_goods) for rule in value]):
        return False
    return len([rule for rule in value if is_endless_each(rule)]) <= 1


def is_shop(value):
    """Return whether value, which may be any object, is a shop."""
    if not is_tuple_of(value, 2):
        return False
    goods, rules = value
    return are_goods(goods) and are_rules(rules, len(goods))


def check_shop(shop):
    """Raise InvalidShop if shop is not a shop."""
    if not is_shop(shop):
        raise InvalidShop("this is not a shop")


def are_pieces(shop, value):
    """Return whether value is a basket of a shop, of any size; the shop is not checked."""
    if not is_tuple_of(value, len(shop[0])):
        return False
    return all([is_integer(pieces) and pieces >= 0 for pieces in value])


def is_basket(shop, value):
    """Return whether value, which may be any object, is a basket of a shop."""
    check_shop(shop)
    return are_pieces(shop, value) and max(value) <= MOST_PIECES


def check_basket(shop, basket):
    """Raise InvalidShop if shop is not a shop, or InvalidBasket if basket is not one of it."""
    if not is_basket(shop, basket):
        raise InvalidBasket("this is not a basket of the shop")
