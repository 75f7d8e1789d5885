"""The gate: a book that lets parcels by, changes for new talks, and the table of those that stand."""

from sieve.books import copy_of
from sieve.changes import choice
from sieve.reading import word_of
from sieve.talks import Table


class Gate:
    """Takes labels at moments that never go back, and tells how each goes out."""

    def __init__(self, book, changes, short, long, most):
        # Copies, so that what the asker does to either behind changes nothing here.
        self.book = copy_of(book)
        self.changes = list(changes)
        self.table = Table(short, long, most)

    def turn(self, label):
        """The turn of a label at the table's time."""
        return self.table.turn(label)

    def standing(self):
        """The talks that stand, as tuples (label, sent, answered, until)."""
        return self.table.standing()

    def take(self, moment, label, last=False):
        """What is done with a label, as a tuple (word, label as it goes out or None)."""
        self.table.at(moment)
        turn = self.table.turn(label)
        if word_of(self.book, (turn,) + label) == "stop":
            return ("stop", None)
        if turn != 0:
            return ("pass", self.table.go_on(label, last))
        return self.begin_talk(label, last)

    def begin_talk(self, label, last):
        """Begins a talk by the label and its choice, where there is one and the table is not full."""
        sent = None if self.table.is_full() else choice(self.changes, label, self.table)
        if sent is None:
            return ("full", None)
        self.table.begin(label, sent)
        # At the moment of its beginning, going onward alters nothing but the farewell that may be said.
        return ("pass", self.table.go_on(label, last))
