"""A plain count of charges, written from points 4 to 7, one piece and one sum after the other."""


def plain_rule_of_good(shop, good, pieces):
    """The number of the first rule on the good that fits, or None."""
    for number, rule in enumerate(shop[1]):
        if rule[0] == "pack" and rule[1] == good:
            _, _, size, _, _ = rule
            if pieces >= size:
                return number
        if rule[0] == "from" and rule[1] == good:
            _, _, least, _ = rule
            if pieces >= least:
                return number
    return None


def plain_good(shop, good, pieces):
    """The amount of a good, and how often its rule is used."""
    price = shop[0][good][0]
    number = plain_rule_of_good(shop, good, pieces)
    amount = 0
    packs = 0
    left = pieces
    if number is None:
        while left > 0:
            amount += price
            left -= 1
        return amount, 0
    rule = shop[1][number]
    if rule[0] == "from":
        while left > 0:
            amount += rule[3]
            left -= 1
        return amount, 1
    _, _, size, pack_price, most = rule
    while left >= size and (most is None or packs < most):
        amount += pack_price
        packs += 1
        left -= size
    while left > 0:
        amount += price
        left -= 1
    return amount, packs


def plain_amounts(shop, basket):
    return tuple(plain_good(shop, good, pieces)[0] for good, pieces in enumerate(basket))


def plain_sums(shop, basket):
    """What is left at the end, and a dict of the uses of the rules on sums by their numbers."""
    left = 0
    for amount in plain_amounts(shop, basket):
        left += amount
    counts = {}
    for number, rule in enumerate(shop[1]):
        if rule[0] == "over":
            _, full, off = rule
            counts[number] = 0
            if left >= full:
                counts[number] = 1
                left -= off
        if rule[0] == "each":
            _, full, off, most = rule
            found = 0
            rest = left
            while rest >= full and (most is None or found < most):
                found += 1
                rest -= full
            counts[number] = found
            for _ in range(found):
                left -= off
    return left, counts


def plain_charge(shop, basket):
    return plain_sums(shop, basket)[0]


def plain_uses(shop, basket):
    counts = plain_sums(shop, basket)[1]
    for good, pieces in enumerate(basket):
        number = plain_rule_of_good(shop, good, pieces)
        if number is not None:
            counts[number] = plain_good(shop, good, pieces)[1]
    return tuple(counts.get(number, 0) for number in range(len(shop[1])))


def plain_gain(shop, basket):
    left = plain_charge(shop, basket)
    for (_, cost), pieces in zip(shop[0], basket):
        for _ in range(pieces):
            left -= cost
    return left
