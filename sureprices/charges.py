"""What a basket is charged, and how often each rule is used for it.

The functions whose names end in `_of` check nothing, and take baskets of any size.
"""

from sureprices.shops import check_basket

SUM_WORDS = ("over", "each")


def full_times(whole, part, most):
    """Return how often a part is in a whole, but at most most times unless this is None."""
    times = whole // part
    return times if most is None else min(times, most)


def fitting_rule(rules, good, pieces):
    """Return the number of the rule that is used on so many pieces of a good, or None."""
    for number, rule in enumerate(rules):
        # The size of a pack rule and the least of a from rule stand in the same place.
        if rule[0] not in SUM_WORDS and rule[1] == good and pieces >= rule[2]:
            return number
    return None


def pack_times(rule, pieces):
    """Return how many full sizes among the pieces cost the price of a pack rule."""
    _, _, size, _, most = rule
    return full_times(pieces, size, most)


def pack_amount(rule, price, pieces):
    """Return the amount of pieces under a pack rule, of a good with this price."""
    _, _, size, pack_price, _ = rule
    times = pack_times(rule, pieces)
    return times * pack_price + (pieces - times * size) * price


def good_amount(shop, good, pieces):
    """Return the amount of so many pieces of a good."""
    goods, rules = shop
    price, _ = goods[good]
    number = fitting_rule(rules, good, pieces)
    if number is None:
        return pieces * price
    rule = rules[number]
    if rule[0] == "pack":
        return pack_amount(rule, price, pieces)
    return pieces * rule[3]


def off_times(rule, left):
    """Return how often a rule takes its off away from what is left; never, on a good."""
    if rule[0] == "over":
        return 1 if left >= rule[1] else 0
    if rule[0] == "each":
        return full_times(left, rule[1], rule[3])
    return 0


def apply_sums(rules, total):
    """Return what the rules on sums leave of a total, and the list of how often each rule took."""
    left = total
    taken = []
    for rule in rules:
        times = off_times(rule, left)
        # The off stands here; a rule on a good, with another number here, never takes it.
        left -= times * rule[2]
        taken.append(times)
    return left, taken


def amounts_of(shop, basket):
    """Return the tuple of the amounts of the goods."""
    return tuple([good_amount(shop, good, pieces) for good, pieces in enumerate(basket)])


def left_of(rules, total):
    """Return what the rules on sums leave of a total."""
    left, _ = apply_sums(rules, total)
    return left


def charge_of(shop, basket):
    """Return the charge of a basket."""
    return left_of(shop[1], sum(amounts_of(shop, basket)))


def uses_of(shop, basket):
    """Return the tuple of the uses of all rules."""
    rules = shop[1]
    _, counts = apply_sums(rules, sum(amounts_of(shop, basket)))
    for good, pieces in enumerate(basket):
        number = fitting_rule(rules, good, pieces)
        if number is not None:
            rule = rules[number]
            counts[number] = pack_times(rule, pieces) if rule[0] == "pack" else 1
    return tuple(counts)


def costs_of(shop, basket):
    """Return the sum of the costs of the pieces of a basket."""
    return sum([good[1] * pieces for good, pieces in zip(shop[0], basket)])


def gain_of(shop, basket):
    """Return the charge of a basket less the sum of the costs of its pieces."""
    return charge_of(shop, basket) - costs_of(shop, basket)


def amounts(shop, basket):
    """Return the tuple of the amounts of the goods."""
    check_basket(shop, basket)
    return amounts_of(shop, basket)


def charge(shop, basket):
    """Return the charge of a basket."""
    check_basket(shop, basket)
    return charge_of(shop, basket)


def uses(shop, basket):
    """Return the tuple of the uses of all rules."""
    check_basket(shop, basket)
    return uses_of(shop, basket)


def gain(shop, basket):
    """Return the charge of a basket less the sum of the costs of its pieces; below 0 in a loss."""
    check_basket(shop, basket)
    return gain_of(shop, basket)
