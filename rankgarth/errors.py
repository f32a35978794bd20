"""The refusals."""


class GarthError(ValueError):
    pass


class NoHand(GarthError):
    pass


class NoRank(GarthError):
    pass


class NoWay(GarthError):
    pass


class NoAmount(GarthError):
    pass


class NoPlace(GarthError):
    pass


class NoRule(GarthError):
    pass


class NoMachine(GarthError):
    pass


class NoAsk(GarthError):
    pass


class NoWish(GarthError):
    pass


class NoText(GarthError):
    pass


class NoName(GarthError):
    pass


class NoRow(GarthError):
    pass


class NoMove(GarthError):
    pass


class TooMany(GarthError):
    pass
