"""The refusals of the program, one class for each."""


class NetError(ValueError):
    pass


class BadText(NetError):
    pass


class Unfit(NetError):
    pass


class NoMirror(NetError):
    pass


class NoPlace(NetError):
    pass


class NoTurn(NetError):
    pass


class Unsound(NetError):
    pass
