"""Points 5 to 8: beginnings of addresses, the bits that two share, the parts of a stretch."""

import inspect
import ipaddress
import unittest

from sieve.bits import beginning, bits_of, parts, shared

GREATEST = 4294967295
ALL_BITS = range(33)
ADDRESSES = (0, 1, 2, 255, 256, 167772415, 2147483647, 2147483648, 2863311530, 1431655765, GREATEST - 1, GREATEST)


def written_bits(address):
    """The 32 bits of an address as a text, the highest first."""
    return bin(address)[2:].zfill(32)


def slow_shared(one, other):
    pairs = list(zip(written_bits(one), written_bits(other)))
    while pairs and [pair for pair in pairs if pair[0] != pair[1]]:
        pairs.pop()
    return len(pairs)


def slow_beginning(address, bits):
    first = written_bits(address)[:bits]
    return (int(first.ljust(32, "0"), 2), int(first.ljust(32, "1"), 2))


def edges():
    """Addresses at, just below and just above the places where beginnings start."""
    near = [place + step for bits in ALL_BITS for place in (2 ** bits, 2 ** 32 - 2 ** bits) for step in (-1, 0, 1)]
    return sorted(set([address for address in near if 0 <= address <= GREATEST]))


class Beginnings(unittest.TestCase):
    def test_as_the_document_tells(self):
        self.assertEqual(beginning(167772415, 24), (167772160, 167772415))
        self.assertEqual(beginning(167772415, 8), (167772160, 184549375))
        self.assertEqual(beginning(167772415, 31), (167772414, 167772415))

    def test_no_bits_hold_all_addresses(self):
        for address in ADDRESSES:
            self.assertEqual(beginning(address, 0), (0, GREATEST))

    def test_all_bits_hold_the_address_alone(self):
        for address in ADDRESSES:
            self.assertEqual(beginning(address, 32), (address, address))

    def test_of_the_least_and_the_greatest_address(self):
        for bits in ALL_BITS:
            self.assertEqual(beginning(0, bits), (0, 2 ** (32 - bits) - 1))
            self.assertEqual(beginning(GREATEST, bits), (2 ** 32 - 2 ** (32 - bits), GREATEST))

    def test_each_number_of_bits(self):
        for address in ADDRESSES + tuple(edges()):
            for bits in ALL_BITS:
                self.assertEqual(beginning(address, bits), slow_beginning(address, bits))

    def test_kinds(self):
        for bits in ALL_BITS:
            told = beginning(1, bits)
            self.assertEqual([type(told), type(told[0]), type(told[1])], [tuple, int, int])


class Shared(unittest.TestCase):
    def test_an_address_and_itself(self):
        for address in ADDRESSES:
            self.assertEqual(shared(address, address), 32)

    def test_unlike_highest_bits(self):
        for one in (0, 1, 2147483647):
            for other in (2147483648, 2147483649, GREATEST):
                self.assertEqual(shared(one, other), 0)
                self.assertEqual(shared(other, one), 0)

    def test_each_number_between(self):
        for address in ADDRESSES:
            for bits in range(32):
                first_unlike = 2 ** (31 - bits)
                for other in (address ^ first_unlike, address ^ (2 * first_unlike - 1)):
                    self.assertEqual(shared(address, other), bits)
                    self.assertEqual(shared(other, address), bits)

    def test_all_pairs_of_edges(self):
        for one in edges():
            for other in edges():
                self.assertEqual(shared(one, other), slow_shared(one, other))

    def test_kinds(self):
        for other in (0, 1, GREATEST - 1, GREATEST):
            self.assertIs(type(shared(GREATEST, other)), int)


class BitsOf(unittest.TestCase):
    def test_each_number_of_bits(self):
        for address in ADDRESSES:
            for bits in ALL_BITS:
                low, high = slow_beginning(address, bits)
                self.assertEqual(bits_of(low, high), bits)
                self.assertIs(type(bits_of(low, high)), int)

    def test_one_address_too_long_or_too_short(self):
        for address in ADDRESSES:
            # Two neighbours and one address are beginnings beside each other, so these come by themselves below.
            for bits in range(31):
                low, high = slow_beginning(address, bits)
                for ends in ((low - 1, high), (low, high + 1), (low + 1, high), (low, high - 1)):
                    if 0 <= ends[0] and ends[1] <= GREATEST:
                        self.assertIsNone(bits_of(ends[0], ends[1]), ends)

    def test_three_addresses_and_fewer(self):
        self.assertEqual(bits_of(4, 4), 32)
        self.assertEqual(bits_of(5, 5), 32)
        self.assertEqual(bits_of(4, 5), 31)
        self.assertIsNone(bits_of(5, 6))
        self.assertIsNone(bits_of(4, 6))
        self.assertIsNone(bits_of(3, 5))

    def test_the_right_size_at_the_wrong_place(self):
        for bits in range(1, 32):
            size = 2 ** (32 - bits)
            for low in (1, size // 2, size - 1, GREATEST - size, GREATEST + 1 - size - size // 2):
                self.assertIsNone(bits_of(low, low + size - 1), (low, bits))

    def test_all_stretches_of_some_addresses(self):
        for base in (0, 2 ** 31 - 16, 2 ** 32 - 32):
            known = {slow_beginning(base + step, bits): bits for step in range(32) for bits in ALL_BITS}
            for low in range(base, base + 32):
                for high in range(low, base + 32):
                    self.assertEqual(bits_of(low, high), known.get((low, high)), (low, high))


class Parts(unittest.TestCase):
    def holds_the_stretch_alone(self, low, high, told):
        place = low
        for address, bits in told:
            ends = slow_beginning(address, bits)
            self.assertEqual(ends[0], address, "told by its least address")
            self.assertEqual(ends[0], place, "rising, with none left out and none twice")
            place = ends[1] + 1
        self.assertEqual(place, high + 1)

    def cannot_be_fewer(self, low, high, told):
        # Beginnings never overlap in part: where none can grow, each address needs the one that holds it.
        for address, bits in told:
            if bits > 0:
                wider = slow_beginning(address, bits - 1)
                self.assertTrue(wider[0] < low or wider[1] > high, (low, high, address, bits))

    def test_all_addresses(self):
        self.assertEqual(parts(0, GREATEST), [(0, 0)])

    def test_one_address(self):
        for address in ADDRESSES:
            self.assertEqual(parts(address, address), [(address, 32)])

    def test_all_but_the_least(self):
        self.assertEqual(parts(1, GREATEST), [(2 ** step, 32 - step) for step in range(32)])

    def test_all_but_the_greatest(self):
        expected = [(2 ** 32 - 2 ** (32 - step), step + 1) for step in range(32)]
        self.assertEqual(parts(0, GREATEST - 1), expected)

    def test_all_but_both_ends(self):
        told = parts(1, GREATEST - 1)
        self.assertEqual(len(told), 62)
        self.holds_the_stretch_alone(1, GREATEST - 1, told)

    def test_each_beginning_is_one_part(self):
        for address in ADDRESSES:
            for bits in ALL_BITS:
                low, high = slow_beginning(address, bits)
                self.assertEqual(parts(low, high), [(low, bits)])

    def test_written_out(self):
        self.assertEqual(parts(5, 6), [(5, 32), (6, 32)])
        self.assertEqual(parts(3, 8), [(3, 32), (4, 30), (8, 32)])
        self.assertEqual(parts(0, 6), [(0, 30), (4, 31), (6, 32)])
        self.assertEqual(parts(2147483647, 2147483648), [(2147483647, 32), (2147483648, 32)])

    def test_stretches_between_edges(self):
        for low in edges():
            for high in edges():
                if low <= high:
                    told = parts(low, high)
                    self.holds_the_stretch_alone(low, high, told)
                    self.cannot_be_fewer(low, high, told)

    def test_fewest_of_all_ways(self):
        for base in (0, 2 ** 31 - 16, 2 ** 32 - 32):
            ends = base + 32
            blocks = sorted(set(slow_beginning(base + step, bits) for step in range(32) for bits in ALL_BITS))
            for high in range(base, ends):
                fewest = {high + 1: 0}
                for low in range(high, base - 1, -1):
                    fits = [block[1] for block in blocks if block[0] == low and block[1] <= high]
                    fewest[low] = 1 + min(fewest[last + 1] for last in fits)
                    self.assertEqual(len(parts(low, high)), fewest[low], (low, high))

    def test_as_pythons_own_library_tells_them(self):
        for low in range(0, GREATEST, 104729 * 4001):
            for high in range(low, GREATEST, 15485863 * 31):
                ends = [ipaddress.IPv4Address(low), ipaddress.IPv4Address(high)]
                nets = ipaddress.summarize_address_range(ends[0], ends[1])
                self.assertEqual(parts(low, high), [(int(net[0]), net.prefixlen) for net in nets])

    def test_kinds(self):
        told = parts(0, 6)
        self.assertIs(type(told), list)
        for part in told:
            self.assertEqual([type(part), type(part[0]), type(part[1])], [tuple, int, int])

    def test_the_list_is_the_askers_own(self):
        for low, high in ((0, GREATEST), (0, 6), (7, 7)):
            first = parts(low, high)
            kept = list(first)
            second = parts(low, high)
            first.clear()
            second.append((0, 0))
            self.assertEqual(parts(low, high), kept)


class Arguments(unittest.TestCase):
    def test_names(self):
        expected = {
            beginning: ["address", "bits"],
            shared: ["one", "other"],
            bits_of: ["low", "high"],
            parts: ["low", "high"],
        }
        for function, names in expected.items():
            self.assertEqual(list(inspect.signature(function).parameters), names)


if __name__ == "__main__":
    unittest.main()
