"""The refusals of the program, one class for each."""


class ShopError(ValueError):
    """Any refusal."""


class NoShop(ShopError):
    """What makes no shop; part is the first part of which it is so."""

    def __init__(self, part):
        ShopError.__init__(self, f"no shop, for its {part}")
        self.part = part


class NoRow(ShopError):
    """A text with a row that is none of a shop's; row is its number."""

    def __init__(self, row):
        ShopError.__init__(self, f"no row of a shop at {row}")
        self.row = row


class NoPlan(ShopError):
    """What writes no schedule."""


class NoTree(ShopError):
    """What is or writes no tree."""


class Gone(ShopError):
    """A begun step that cannot stay as it is; step is its name."""

    def __init__(self, step):
        ShopError.__init__(self, f"begun, but gone: {step}")
        self.step = step


class NoName(ShopError):
    """A name by which nothing stands."""


class NoSay(ShopError):
    """A row that the desk does not take."""
