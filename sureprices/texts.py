"""Texts of shops: how a shop is written, and how it is read back."""

from sureprices.errors import ParseError
from sureprices.shops import check_shop, is_shop

NO_RULES = "none"
NO_MOST = "-"
MOST_DIGITS = 2


def format_item(item):
    """Return the text of an item of a rule."""
    return NO_MOST if item is None else str(item)


def format_good(good):
    """Return the text of a good."""
    price, cost = good
    return f"{price}/{cost}"


def format_rule(rule):
    """Return the text of a rule."""
    return " ".join([format_item(item) for item in rule])


def format_shop(shop):
    """Return the text of a shop."""
    check_shop(shop)
    goods, rules = shop
    first = ", ".join([format_good(good) for good in goods])
    second = ", ".join([format_rule(rule) for rule in rules]) if len(rules) > 0 else NO_RULES
    return f"{first}; {second}"


def read_item(text):
    """Return the integer or the None of a text, or the text itself if it is of neither."""
    if text == NO_MOST:
        return None
    # No number of a shop has more digits; so a text of very many is not read as one either.
    if len(text) > MOST_DIGITS or not text.isascii() or not text.isdigit():
        return text
    number = int(text)
    # A number with a zero before it is not the text of any number.
    return number if str(number) == text else text


def read_items(text, between):
    """Return the tuple of the items of a text."""
    return tuple([read_item(part) for part in text.split(between)])


def read_rules(text):
    """Return the tuple of what would be the rules of a text."""
    if text == NO_RULES:
        return ()
    return tuple([read_items(part, " ") for part in text.split(", ")])


def read_shop(text):
    """Return what would be the shop of a text, or None if the text has not two parts."""
    parts = text.split("; ")
    if len(parts) != 2:
        return None
    first, second = parts
    return (tuple([read_items(part, "/") for part in first.split(", ")]), read_rules(second))


def parse_shop(text):
    """Return the shop with a text, which may be any object; raise ParseError if there is none."""
    if not isinstance(text, str):
        raise ParseError("this is not a text")
    # What stands in a place of another kind, or is left over, makes that this is not a shop.
    shop = read_shop(text)
    if not is_shop(shop):
        raise ParseError("this is the text of no shop")
    return shop
