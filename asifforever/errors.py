"""All errors of the package: each is a DrawError and keeps just what it is made with."""


class DrawError(ValueError):
    """What all errors of the package are."""


class BadSystem(DrawError):
    """No system: which part of it is wrong."""

    def __init__(self, part):
        self.part = part


class BadLine(DrawError):
    """No text of the form asked for: which line lacks it."""

    def __init__(self, number):
        self.number = number


class BadCoin(DrawError):
    """No text of coins: which word is wrong."""

    def __init__(self, number):
        self.number = number


class BadModel(DrawError):
    """No model: which part of it is wrong."""

    def __init__(self, part):
        self.part = part


class TooMany(DrawError):
    """More than the most that is taken."""

    def __init__(self, most):
        self.most = most


class NoName(DrawError):
    """Nothing stands under this name."""

    def __init__(self, name):
        self.name = name


class NoRow(DrawError):
    """No row of moves."""

    def __init__(self):
        pass


class NoState(DrawError):
    """No state of the system."""

    def __init__(self):
        pass


class NoSpread(DrawError):
    """No spread of so many states."""

    def __init__(self):
        pass


class NoNumber(DrawError):
    """No integer within the bounds."""

    def __init__(self):
        pass


class NoLot(DrawError):
    """No closed lot of the system."""

    def __init__(self):
        pass


class NotOne(DrawError):
    """There is not just one closed lot."""

    def __init__(self):
        pass


class NoShare(DrawError):
    """No fraction above 0."""

    def __init__(self):
        pass


class NothingTold(DrawError):
    """No state is told by then."""

    def __init__(self):
        pass


class NoCoins(DrawError):
    """No coins."""

    def __init__(self):
        pass


class NoPlan(DrawError):
    """No plan."""

    def __init__(self):
        pass


class NoMove(DrawError):
    """No number of a move."""

    def __init__(self):
        pass


class NoLength(DrawError):
    """No length of a block."""

    def __init__(self):
        pass


class NotMerging(DrawError):
    """No row of this length merges."""

    def __init__(self):
        pass


class NoBits(DrawError):
    """No bits."""

    def __init__(self):
        pass


class NoOrder(DrawError):
    """No order of the states."""

    def __init__(self):
        pass


class NotKept(DrawError):
    """The order is not kept."""

    def __init__(self):
        pass


class NoEnds(DrawError):
    """An end is not there."""

    def __init__(self):
        pass


class NoPicture(DrawError):
    """No picture of the model."""

    def __init__(self):
        pass


class NoPlace(DrawError):
    """No place of the model."""

    def __init__(self):
        pass


class NoRenewal(DrawError):
    """No renewal."""

    def __init__(self):
        pass


class NothingFits(DrawError):
    """No picture fits."""

    def __init__(self):
        pass


class NoSizes(DrawError):
    """No sizes of stacks."""

    def __init__(self):
        pass


class NoPairs(DrawError):
    """No lot of pairs of places."""

    def __init__(self):
        pass


class NoFlips(DrawError):
    """No flips of the places."""

    def __init__(self):
        pass


class NotRising(DrawError):
    """The model does not rise by these flips."""

    def __init__(self):
        pass


class NoCover(DrawError):
    """No cover."""

    def __init__(self):
        pass


class NoOrdering(DrawError):
    """No tuple of all places in an order."""

    def __init__(self):
        pass


class NoPlaces(DrawError):
    """No lot of so few places."""

    def __init__(self):
        pass


class NoValue(DrawError):
    """No value of a place."""

    def __init__(self):
        pass


class NoEdit(DrawError):
    """Nothing to which the model may be edited."""

    def __init__(self):
        pass


class NothingDone(DrawError):
    """No edit is left to take back."""

    def __init__(self):
        pass


class NoLine(DrawError):
    """No line of the desk's forms."""

    def __init__(self):
        pass
