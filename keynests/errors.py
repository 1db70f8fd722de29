"""The refusals, one class for each."""


# What all refusals stand under, so that one handler can take any of them.
class NestError(ValueError):
    pass


class NoRule(NestError):
    pass


class NoPairs(NestError):
    pass


class Twice(NestError):
    pass


class NoKey(NestError):
    pass


class NoText(NestError):
    pass


class NoRow(NestError):
    pass


class Full(NestError):
    def __init__(self, some):
        NestError.__init__(self, f"there is no room for all of {some!r}")
        # A copy, so that the value is the asker's own.
        self.some = list(some)


class NoPush(NestError):
    def __init__(self, at):
        NestError.__init__(self, f"no row of pushes, as the tuple {at!r} shows")
        self.at = at


class NoFit(NestError):
    def __init__(self, some):
        NestError.__init__(self, f"the keys don't fit, as these show: {some!r}")
        # A copy, so that the value is the asker's own.
        self.some = list(some)
