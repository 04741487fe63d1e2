"""From where on, and by how much, amounts and charges grow evenly (point 8).

The functions of this file check nothing.
"""

from sureprices.charges import fitting_rule, good_amount
from sureprices.shops import MOST_PIECES


def rounded_up(whole, part):
    """Return how many parts are needed to reach a whole."""
    return (whole + part - 1) // part


def sum_growth(rules):
    """Return the sum from which on the charge grows evenly, with how much sum, and by how much."""
    start, step, more = 0, 1, 1
    # Backwards, so that start is always what has to be left for the rules behind.
    for rule in reversed(rules):
        if rule[0] == "over":
            _, full, off = rule
            start = max(full, start + off)
        elif rule[0] == "each":
            _, full, off, most = rule
            if most is None:
                step, more = full, full - off
                # What is left of so many full sums is at least more for each of them.
                start = full * rounded_up(start, more)
            else:
                start = max(most * full, start + most * off)
    return start, step, more


def good_growth(shop, good):
    """Return the pieces from which on the amount grows evenly, with how many, and by how much."""
    goods, rules = shop
    price, _ = goods[good]
    # So many pieces fit every rule on the good, and the first one is used.
    number = fitting_rule(rules, good, MOST_PIECES)
    if number is None:
        return 0, 1, price
    rule = rules[number]
    if rule[0] == "from":
        return rule[2], 1, rule[3]
    _, _, size, pack_price, most = rule
    if most is None:
        return size, size, pack_price
    return most * size, 1, price


def settled_pieces(shop, good, total):
    """Return the pieces from which on the amount grows evenly and is at least a total."""
    start, step, more = good_growth(shop, good)
    least = min([good_amount(shop, good, start + extra) for extra in range(step)])
    return start + step * rounded_up(max(0, total - least), more)


def cycle(shop, good):
    """Return from how many pieces of a good on, with how many, and by how much charges grow evenly.

    This holds whatever else is in the basket: amounts are never below 0, so the sum is high
    enough by this good alone.
    """
    start, step, more = sum_growth(shop[1])
    _, pieces, amount = good_growth(shop, good)
    # After step times the pieces, the sum has grown by a multiple of step, too.
    return settled_pieces(shop, good, start), pieces * step, amount * more


def cycles(shop):
    """Return the list of the cycles of all goods."""
    return [cycle(shop, good) for good in range(len(shop[0]))]
