"""The refusals: each is a RingError, and so a ValueError."""


class RingError(ValueError):
    pass


class NoHand(RingError):
    pass


class NoKey(RingError):
    pass
