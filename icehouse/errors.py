"""The refusals of the program, one error class for each kind."""


class IceError(ValueError):
    """Any refusal."""


class BadHouse(IceError):
    """What was handed in as a house is none."""


class NoSuch(IceError):
    """There is no such cell, no such wall, or no ice where some is asked for."""


class BadDeeds(IceError):
    """What was handed in as deeds, or as a till, is none."""


class BadPlan(IceError):
    """What was handed in as a plan is none, or a place doesn't fit when it is its turn."""


class BadText(IceError):
    """The text is not written as a house is."""
