"""The refusals: one class for each, all under SieveError and none under another."""


class SieveError(ValueError):
    """Any refusal."""


class NoAddress(SieveError):
    """A text that is not written as an address."""


class NoRow(SieveError):
    """A row that is none of what may stand there."""

    def __init__(self, row):
        SieveError.__init__(self, f"row {row} is none of what may stand there")
        self.row = row


class TwoChains(SieveError):
    """A chain's name that comes a second time."""

    def __init__(self, name):
        SieveError.__init__(self, f"two chains are called {name}")
        self.name = name


class NoChain(SieveError):
    """A name that no chain has."""

    def __init__(self, name):
        SieveError.__init__(self, f"no chain is called {name}")
        self.name = name


class Ring(SieveError):
    """Calls that come round among chains."""

    def __init__(self, names):
        # A copy, so that what the asker does to the list behind changes nothing here.
        self.names = list(names)
        ring = ", ".join(self.names)
        SieveError.__init__(self, f"calls come round: {ring}")


class TooLong(SieveError):
    """A book whose main is too long."""

    def __init__(self, total):
        SieveError.__init__(self, f"the length of main is {total}")
        self.total = total


class NoRule(SieveError):
    """A chain or an index by which a book has no rule."""


class Reached(SieveError):
    """A rule that some parcel reaches."""

    def __init__(self, parcel):
        SieveError.__init__(self, f"the rule is reached by {parcel!r}")
        self.parcel = parcel


class OutOfTime(SieveError):
    """A moment less than the time of a table."""

    def __init__(self, moment):
        SieveError.__init__(self, f"the time is {moment} already")
        self.moment = moment


class Taken(SieveError):
    """A label and a sent label that are not free."""


class Full(SieveError):
    """A table in which as many talks stand as may."""


class NoTalk(SieveError):
    """A label by which no standing talk goes."""


class NoName(SieveError):
    """A name by which nothing stands at a desk."""

    def __init__(self, name):
        SieveError.__init__(self, f"nothing stands by the name {name}")
        self.name = name
