"""Slips: parcels and labels in writing, each part a word, and changes, each a row."""

from sieve.addresses import show_address
from sieve.errors import NoRow
from sieve.rules import GREATEST_DOOR, GREATEST_KIND, GREATEST_TURN
from sieve.texts import ALONE, read_label_box, read_number, read_numbers, read_place
from sieve.words import words_of

LABEL_WORDS = 5
SIDES = ("from", "to")
# The side, the address and the doors stand ahead of a change's pairs.
CHANGE_WORDS = 3


def read_label(words):
    """The label that the words write; NoRow where they write none."""
    if len(words) != LABEL_WORDS:
        raise NoRow(ALONE)
    kind = read_number(words[0], GREATEST_KIND)
    sender = (read_place(words[1]), read_number(words[2], GREATEST_DOOR))
    receiver = (read_place(words[3]), read_number(words[4], GREATEST_DOOR))
    return (kind,) + sender + receiver


def read_parcel(words):
    """The parcel that the words write; NoRow where they write none."""
    if len(words) != 1 + LABEL_WORDS:
        raise NoRow(ALONE)
    return (read_number(words[0], GREATEST_TURN),) + read_label(words[1:])


def show_label(label):
    """The words of a label, parted by single blanks."""
    sender = show_address(label[1]) + " " + str(label[2])
    receiver = show_address(label[3]) + " " + str(label[4])
    return str(label[0]) + " " + sender + " " + receiver


def show_parcel(parcel):
    """The words of a parcel, parted by single blanks."""
    return str(parcel[0]) + " " + show_label(parcel[1:])


def read_change_words(words):
    """The change that the words write; NoRow where they write none."""
    if len(words) < CHANGE_WORDS or words[0] not in SIDES:
        raise NoRow(ALONE)
    address = read_place(words[1])
    doors = read_numbers(words[2], GREATEST_DOOR)
    return (words[0], read_label_box(words[CHANGE_WORDS:]), address, doors)


def read_change(row):
    """The change that the row writes; NoRow where it writes none."""
    return read_change_words(words_of(row))
