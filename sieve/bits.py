"""Beginnings of addresses: stretches of all addresses that have their first bits in common."""

ADDRESS_BITS = 32
GREATEST_ADDRESS = 4294967295


def beginning(address, bits):
    """The stretch of all addresses whose first bits are those of the address."""
    free_bits = GREATEST_ADDRESS >> bits
    high = address | free_bits
    return (high - free_bits, high)


def shared(one, other):
    """How many first bits two addresses share."""
    return ADDRESS_BITS - (one ^ other).bit_length()


def bits_of(low, high):
    """The number of bits of which the stretch is a beginning, or None."""
    # The ends of a beginning share just its bits, so no other number can do.
    bits = shared(low, high)
    if beginning(low, bits) == (low, high):
        return bits
    return None


def starts_and_stays(low, high, bits):
    """Whether the beginning of low with so many bits starts at low and ends at high or below."""
    stretch = beginning(low, bits)
    return stretch[0] == low and stretch[1] <= high


def fewest_bits(low, high):
    """The number of bits of the largest beginning that starts at low and ends at high or below."""
    bits = ADDRESS_BITS
    while bits > 0 and starts_and_stays(low, high, bits - 1):
        bits = bits - 1
    return bits


def parts(low, high):
    """The fewest beginnings that hold the stretch and nothing else, rising, as (address, bits)."""
    told = []
    start = low
    # Two beginnings either lie one within the other or do not meet, so the largest one
    # at each start leaves no way to do with fewer.
    while start <= high:
        bits = fewest_bits(start, high)
        told.append((start, bits))
        start = beginning(start, bits)[1] + 1
    return told
