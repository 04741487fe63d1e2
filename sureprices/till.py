"""Tills, which take pieces one by one, with a history."""

from sureprices.baskets import with_more
from sureprices.charges import charge_of
from sureprices.errors import InvalidNumber, NothingToUndo, NotThere
from sureprices.shops import check_shop, is_between


class Till:
    """A shop and a basket, with the steps that led to it and can be undone.

    Its length is the number of pieces in the basket; as a string it is the charge.
    """

    def __init__(self, shop):
        check_shop(shop)
        self._shop = shop
        self._now = (0,) * len(shop[0])
        self._before = []

    def __eq__(self, other):
        return isinstance(other, Till) and self._shop == other._shop and self._now == other._now

    def __len__(self):
        return len(range(sum(self._now)))

    def __str__(self):
        return str(charge_of(self._shop, self._now))

    def _check_good(self, good):
        """Raise InvalidNumber if good is not the number of a good."""
        if not is_between(good, 0, len(self._now) - 1):
            raise InvalidNumber("this is not the number of a good of the shop")

    def _step(self, basket):
        """Go on to a basket and return by how much the charge grows."""
        before = self._now
        self._before.append(before)
        self._now = basket
        return charge_of(self._shop, basket) - charge_of(self._shop, before)

    def put(self, good):
        """Put a piece of a good in and return by how much the charge grows."""
        self._check_good(good)
        return self._step(with_more(self._now, good, 1))

    def take(self, good):
        """Take a piece of a good out and return by how much the charge grows."""
        self._check_good(good)
        if self._now[good] == 0:
            raise NotThere("there is no piece of this good in the basket")
        return self._step(with_more(self._now, good, -1))

    def basket(self):
        """Return the basket."""
        return self._now

    def undo(self):
        """Undo the last step and return the basket then."""
        if len(self._before) == 0:
            raise NothingToUndo("there is no step that could be undone")
        self._now = self._before.pop()
        return self._now

    def duplicate(self):
        """Return a till with the same shop and basket, in which no step so far can be undone."""
        other = Till(self._shop)
        other._now = self._now
        return other
