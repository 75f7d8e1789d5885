"""Addresses in writing: four parts of 8 bits with points between, the highest first."""

from sieve.errors import NoAddress

FIGURES = "0123456789"
PART_COUNT = 4
PART_SHIFTS = (24, 16, 8, 0)
PART_SIZE = 256
MOST_FIGURES = 3


def is_part(word):
    """Whether the word is written as a part of an address."""
    # The length is looked at first, so that no long row of figures is ever read as a number.
    if word == "" or len(word) > MOST_FIGURES:
        return False
    # isdigit takes signs beyond the ten figures too.
    if not all([sign in FIGURES for sign in word]):
        return False
    if word[0] == "0" and word != "0":
        return False
    return int(word) < PART_SIZE


def read_address(text):
    """The address that the text writes; NoAddress where it writes none."""
    words = text.split(".")
    if len(words) != PART_COUNT or not all([is_part(word) for word in words]):
        raise NoAddress(f"not written as an address: {text!r}")
    address = 0
    for word in words:
        address = address * PART_SIZE + int(word)
    return address


def show_address(address):
    """The text of an address."""
    return ".".join([str((address >> shift) % PART_SIZE) for shift in PART_SHIFTS])
