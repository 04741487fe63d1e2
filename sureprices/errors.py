"""The exceptions of the program, one for each kind of failure."""


class PriceError(ValueError):
    """The base class of all exceptions of the program."""


class InvalidShop(PriceError):
    """An argument is not a shop."""


class InvalidBasket(PriceError):
    """An argument is not a basket of the shop."""


class InvalidActs(PriceError):
    """An argument is not acts of the shop, or not bought acts of the offers."""


class InvalidAct(PriceError):
    """An argument is not an act of the shop."""


class InvalidOffers(PriceError):
    """An argument is not offers of the shop."""


class InvalidKinds(PriceError):
    """An argument is not kinds of faults."""


class InvalidNumber(PriceError):
    """An argument is not one of the integers that may stand in its place."""


class Different(PriceError):
    """Two shops have not as many goods."""


class NoFault(PriceError):
    """A shop has no fault of the kind that was asked for."""


class NotThere(PriceError):
    """A basket has no piece of the good that was to be taken out."""


class NothingToUndo(PriceError):
    """A till has no step that could be undone."""


class ParseError(PriceError):
    """A text is not the text of any shop."""
