"""Point 4: how an address is written, and what is refused."""

import inspect
import unittest

from sieve.addresses import read_address, show_address
from sieve.errors import NoAddress, SieveError

GREATEST = 4294967295

WRITTEN = {
    "0.0.0.0": 0,
    "0.0.0.1": 1,
    "0.0.0.255": 255,
    "0.0.1.0": 256,
    "0.1.0.0": 65536,
    "1.0.0.0": 16777216,
    "1.2.3.4": 16909060,
    "4.3.2.1": 67305985,
    "9.10.99.100": 151675748,
    "10.0.0.255": 167772415,
    "127.255.255.255": 2147483647,
    "128.0.0.0": 2147483648,
    "200.249.250.251": 3371825915,
    "255.0.0.0": 4278190080,
    "255.255.255.254": GREATEST - 1,
    "255.255.255.255": GREATEST,
}


def with_each_place_changed(change):
    """The four texts in which one part of an address was put through the change."""
    texts = []
    for place in range(4):
        words = ["10", "20", "30", "40"]
        words[place] = change(words[place])
        texts.append(".".join(words))
    return texts


class Written(unittest.TestCase):
    def test_read(self):
        for text, address in WRITTEN.items():
            self.assertEqual(read_address(text), address)

    def test_shown(self):
        for text, address in WRITTEN.items():
            self.assertEqual(show_address(address), text)

    def test_each_number_stands_in_each_part(self):
        for place in range(4):
            for number in range(256):
                words = ["7", "7", "7", "7"]
                words[place] = str(number)
                text = ".".join(words)
                address = sum(int(word) * 256 ** (3 - index) for index, word in enumerate(words))
                self.assertEqual(read_address(text), address)
                self.assertEqual(show_address(address), text)

    def test_what_is_shown_is_read_as_the_same_address(self):
        for address in list(range(0, GREATEST + 1, 1299709)) + [GREATEST]:
            self.assertEqual(read_address(show_address(address)), address)

    def test_kinds(self):
        for text in ("0.0.0.0", "0.0.0.1"):
            self.assertIs(type(read_address(text)), int)
        self.assertIs(type(show_address(0)), str)

    def test_arguments(self):
        self.assertEqual(list(inspect.signature(read_address).parameters), ["text"])
        self.assertEqual(list(inspect.signature(show_address).parameters), ["address"])


class Refused(unittest.TestCase):
    def refused(self, text):
        for error in (NoAddress, SieveError, ValueError):
            with self.assertRaises(error, msg=repr(text)) as caught:
                read_address(text)
            self.assertIs(type(caught.exception), NoAddress, repr(text))

    def each_place_refused(self, change):
        for text in with_each_place_changed(change):
            self.refused(text)

    def test_a_part_above_255(self):
        for word in ("256", "257", "260", "300", "999", "1000", "2550", "4294967295"):
            self.each_place_refused(lambda part: word)

    def test_a_nought_ahead(self):
        for word in ("00", "000", "01", "001", "010", "0255", "0000000001"):
            self.each_place_refused(lambda part: word)

    def test_a_part_with_nothing_in_it(self):
        self.each_place_refused(lambda part: "")
        self.refused("...")

    def test_too_few_parts(self):
        for text in ("1", "1.2", "1.2.3", "4294967295", "."):
            self.refused(text)

    def test_too_many_parts(self):
        for text in ("1.2.3.4.5", "0.0.0.0.0", "1.2.3.4.", ".1.2.3.4", "1..2.3.4", "1.2.3.4.5.6.7.8"):
            self.refused(text)

    def test_the_empty_text(self):
        self.refused("")

    def test_signs_that_are_no_figures(self):
        others = [chr(code) for code in range(32, 127) if chr(code) not in "0123456789."] + ["\n", "\t", "\r"]
        for sign in others:
            self.each_place_refused(lambda part: sign)
            self.each_place_refused(lambda part: sign + part)
            self.each_place_refused(lambda part: part + sign)
            self.each_place_refused(lambda part: part[0] + sign + part[1])

    def test_short_parts_with_a_sign(self):
        for word in ("+1", "-1", "-0", "+0", " 1", "1 ", "1_0", "_1", "1_", "\n1", "1\n", "a", "1e1", "0x1", "0b1"):
            self.each_place_refused(lambda part: word)

    def test_figures_of_other_scripts(self):
        for word in ("\u0661", "\u00b2", "\uff11", "1\u0661"):
            self.each_place_refused(lambda part: word)

    def test_other_signs_between_the_parts(self):
        for text in ("1,2,3,4", "1 2 3 4", "1:2:3:4", "1.2.3,4", "1. 2.3.4", "1 .2.3.4", "1.2.3.4/32", "1.2.3.4-1.2.3.5"):
            self.refused(text)

    def test_a_line_feed_between_two_addresses(self):
        self.refused("1.2.3.4\n1.2.3.4")

    def test_a_very_long_row_of_figures(self):
        for figure in ("0", "1", "9"):
            self.refused(figure * 60000)
            self.each_place_refused(lambda part: figure * 5000)
            self.each_place_refused(lambda part: figure * 59990)

    def test_a_very_long_row_of_points(self):
        self.refused("." * 60000)
        self.refused("1." * 30000)


if __name__ == "__main__":
    unittest.main()
