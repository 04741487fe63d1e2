"""Baskets one after the other, and the charges of many of them.

The functions of this file check nothing.
"""

from sureprices.charges import good_amount, left_of


def with_more(basket, good, pieces):
    """Return the basket with so many pieces more of a good."""
    return basket[:good] + (basket[good] + pieces,) + basket[good + 1:]


def baskets_of(pieces, limits):
    """Return the ascending list of the baskets of so many pieces, within limits of each good."""
    if len(limits) == 1:
        return [(pieces,)] if pieces <= limits[0] else []
    first, second = limits
    counts = range(max(0, pieces - second), min(pieces, first) + 1)
    return [(count, pieces - count) for count in counts]


def baskets_within(limits):
    """Return the list of the baskets within limits of each good, the first ones (point 14) first."""
    return [basket for pieces in range(sum(limits) + 1) for basket in baskets_of(pieces, limits)]


def sums_within(shop, limits):
    """Return a dict of the sums of the amounts of all baskets within limits of each good."""
    sums = {(): 0}
    for good, limit in enumerate(limits):
        table = [good_amount(shop, good, pieces) for pieces in range(limit + 1)]
        longer = {basket + (pieces,): total + amount
                  for basket, total in sums.items() for pieces, amount in enumerate(table)}
        sums = longer
    return sums


def charges_within(shop, limits):
    """Return a dict of the charges of all baskets within limits of each good."""
    sums = sums_within(shop, limits)
    # Many baskets have the same sum: each is reduced once.
    left = [left_of(shop[1], total) for total in range(max(sums.values()) + 1)]
    return {basket: left[total] for basket, total in sums.items()}
