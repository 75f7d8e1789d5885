"""Rules: a box of parcels, and what is done with those that lie in it."""

from sieve.bits import GREATEST_ADDRESS
from sieve.boxes import has

GREATEST_TURN = 3
GREATEST_KIND = 255
GREATEST_DOOR = 65535


def every():
    """The box of all parcels: turn, kind, sender and its door, receiver and its door."""
    addresses = (0, GREATEST_ADDRESS)
    doors = (0, GREATEST_DOOR)
    return ((0, GREATEST_TURN), (0, GREATEST_KIND), addresses, doors, addresses, doors)


class Rule:
    """What all rules have: the box of the parcels that they fit."""

    def __init__(self, box):
        self.box = box

    def fits(self, parcel):
        """Whether the rule fits the parcel."""
        return has(self.box, parcel)


class Word(Rule):
    """A rule that ends the reading with its word."""

    def __init__(self, box, word):
        Rule.__init__(self, box)
        self.word = word

    def told(self):
        """The rule's tuple."""
        return (self.word, self.box)

    def head(self):
        """The rule's first word."""
        return self.word


class Back(Rule):
    """A rule that ends the chain in which it stands."""

    def told(self):
        """The rule's tuple."""
        return ("back", self.box)

    def head(self):
        """The rule's first word."""
        return "back"


class Call(Rule):
    """A rule that calls another chain."""

    def __init__(self, box, name):
        Rule.__init__(self, box)
        self.name = name

    def told(self):
        """The rule's tuple."""
        return ("call", self.box, self.name)

    def head(self):
        """The rule's first words."""
        return "call " + self.name


def rule_of(told):
    """The object of a rule's tuple."""
    if told[0] == "back":
        return Back(told[1])
    if told[0] == "call":
        return Call(told[1], told[2])
    return Word(told[1], told[0])
