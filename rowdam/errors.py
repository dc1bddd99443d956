"""The refusals. Each class stands straight under DamError, so that none is taken for another."""


class DamError(ValueError):
    pass


class NoItem(DamError):
    def __init__(self, at):
        DamError.__init__(self, f"no item at place {at}")
        self.at = at


class NoText(DamError):
    def __init__(self, at):
        DamError.__init__(self, f"row {at} has none of the forms")
        self.at = at


class NoName(DamError):
    def __init__(self, at):
        DamError.__init__(self, f"row {at} has a name that may not stand there")
        self.at = at


class NoExpr(DamError):
    pass


class NoIn(DamError):
    pass


class TooMuch(DamError):
    pass


class NoRoom(DamError):
    pass


class Full(DamError):
    pass


class Bare(DamError):
    pass


class NoMove(DamError):
    pass


class NoWide(DamError):
    pass


class NoOrder(DamError):
    pass
