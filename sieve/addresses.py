"""Addresses in writing: four parts of 8 bits with points between, the highest first."""

from sieve.errors import NoAddress
from sieve.words import is_number

PART_COUNT = 4
PART_SHIFTS = (24, 16, 8, 0)
PART_SIZE = 256


def read_address(text):
    """The address that the text writes; NoAddress where it writes none."""
    words = text.split(".")
    if len(words) != PART_COUNT or not all([is_number(word, PART_SIZE - 1) for word in words]):
        raise NoAddress(f"not written as an address: {text!r}")
    address = 0
    for word in words:
        address = address * PART_SIZE + int(word)
    return address


def show_address(address):
    """The text of an address."""
    return ".".join([str((address >> shift) % PART_SIZE) for shift in PART_SHIFTS])
