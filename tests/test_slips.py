"""Points 40 and 41: parcels written as words, and changes written as rows; with points 4 and 15."""

import inspect
import itertools
import random
import unittest

from building import ADDRESS, EVERY, labels_with
from sieve import errors
from sieve.errors import NoRow, SieveError
from sieve.slips import read_change, read_parcel, show_parcel

TEN = 167772160
# Of each parcel as it is shown, the parcel; these words are read as the parcel too.
PARCELS = {
    "0 0 0.0.0.0 0 0.0.0.0 0": (0, 0, 0, 0, 0, 0),
    "3 255 255.255.255.255 65535 255.255.255.255 65535": (3, 255, ADDRESS, 65535, ADDRESS, 65535),
    "1 6 10.0.0.7 40000 1.2.3.4 443": (1, 6, TEN + 7, 40000, 16909060, 443),
    "2 17 0.0.0.1 1 10.0.1.0 10": (2, 17, 1, 1, TEN + 256, 10),
}
NUMBER_PLACES = {0: 3, 1: 255, 3: 65535, 5: 65535}
ADDRESS_PLACES = (2, 4)
WRONG_NUMBERS = ("", "00", "01", "-1", "+1", "1-1", "0-3", "1-2", "1.0", "1e1", "x", "a", "0x1", "1_0", " 1", "1 ", "1/8",
                 "10.0.0.1", "#", "1#", "\u0661", "4294967296", "99999999999", "9" * 5000)
WRONG_ADDRESSES = ("", "1", "167772160", "10.0.0", "10.0.0.0.0", "10.0.0.256", "10.0.0.01", "00.0.0.0", "10.0.0.0/32",
                   "10.0.0.0/8", "10.0.0.1-10.0.0.1", "10.0.0.1-10.0.0.2", "-1.0.0.0", "+1.0.0.0", "10.0.0.", ".0.0.0",
                   "10..0.0", " 10.0.0.1", "10.0.0.1 ", "a.b.c.d", "10,0,0,1", "10.0.0.1#", "10.0.0.\u0661")


class Case(unittest.TestCase):
    def refused(self, read, handed):
        """That what is handed in is refused with NoRow, and with no other of the refusals."""
        with self.assertRaises(SieveError, msg=repr(handed)) as caught:
            read(handed)
        self.assertIs(type(caught.exception), NoRow, handed)
        self.assertEqual(caught.exception.row, 1)
        self.assertIs(type(caught.exception.row), int)


class Parcels(Case):
    def test_read_and_shown(self):
        for text, parcel in PARCELS.items():
            self.assertEqual(read_parcel(text.split(" ")), parcel)
            self.assertEqual(show_parcel(parcel), text)

    def test_shown_and_read_again(self):
        chance = random.Random(40)
        for number in range(300):
            parcel = tuple(chance.choice((low, low + 1, chance.randint(low, high), high)) for low, high in EVERY)
            self.assertEqual(read_parcel(show_parcel(parcel).split(" ")), parcel)

    def test_each_number_at_its_bound_and_one_above(self):
        for text in PARCELS:
            for place, greatest in NUMBER_PLACES.items():
                words = text.split(" ")
                for number in (0, 1, greatest - 1, greatest):
                    words[place] = str(number)
                    self.assertEqual(read_parcel(words)[place], number)
                for number in (greatest + 1, greatest + 10, greatest * 10):
                    words[place] = str(number)
                    self.refused(read_parcel, words)

    def test_wrong_numbers(self):
        for text in PARCELS:
            for place in NUMBER_PLACES:
                for wrong in WRONG_NUMBERS:
                    words = text.split(" ")
                    words[place] = wrong
                    self.refused(read_parcel, words)

    def test_wrong_addresses(self):
        for text in PARCELS:
            for place in ADDRESS_PLACES:
                for wrong in WRONG_ADDRESSES:
                    words = text.split(" ")
                    words[place] = wrong
                    self.refused(read_parcel, words)

    def test_too_few_and_too_many_words(self):
        for text in PARCELS:
            words = text.split(" ")
            for count in range(6):
                self.refused(read_parcel, words[:count])
                self.refused(read_parcel, words[6 - count:])
                self.refused(read_parcel, words[:count] + words[count + 1:])
            for word in ("0", "10.0.0.1", "last", ""):
                for place in range(7):
                    self.refused(read_parcel, words[:place] + [word] + words[place:])
            self.refused(read_parcel, words + words)
            self.refused(read_parcel, [text])

    def test_the_words_stay(self):
        for words in (["1", "6", "10.0.0.7", "40000", "1.2.3.4", "443"], ["1", "6"], [], ["x"] * 6):
            before = list(words)
            try:
                read_parcel(words)
            except NoRow:
                pass
            self.assertEqual(words, before)

    def test_kinds_and_arguments(self):
        for text, parcel in PARCELS.items():
            told = read_parcel(text.split(" "))
            self.assertEqual([type(part) for part in (told,) + told], [tuple] + 6 * [int])
            self.assertIs(type(show_parcel(parcel)), str)
        self.assertEqual(list(inspect.signature(read_parcel).parameters), ["words"])
        self.assertEqual(list(inspect.signature(show_parcel).parameters), ["parcel"])


# Of each row, the change that it writes.
CHANGES = {
    "from 10.0.0.1 5": ("from", labels_with(), TEN + 1, (5, 5)),
    "to 10.0.0.1 5": ("to", labels_with(), TEN + 1, (5, 5)),
    "from 0.0.0.0 0": ("from", labels_with(), 0, (0, 0)),
    "to 255.255.255.255 65535": ("to", labels_with(), ADDRESS, (65535, 65535)),
    "from 10.0.0.1 0-65535": ("from", labels_with(), TEN + 1, (0, 65535)),
    "to 10.0.0.1 7-7": ("to", labels_with(), TEN + 1, (7, 7)),
    "to 10.0.0.1 9-10": ("to", labels_with(), TEN + 1, (9, 10)),
    "from 10.0.0.1 5 kind 6": ("from", labels_with(kind=6), TEN + 1, (5, 5)),
    "from 10.0.0.1 5 kind 6-17": ("from", labels_with(kind=(6, 17)), TEN + 1, (5, 5)),
    "from 10.0.0.1 5 kind 0-255": ("from", labels_with(), TEN + 1, (5, 5)),
    "from 10.0.0.1 5 from 10.0.0.2": ("from", labels_with(sender=TEN + 2), TEN + 1, (5, 5)),
    "to 10.0.0.1 5 from 10.0.0.9/24": ("to", labels_with(sender=(TEN, TEN + 255)), TEN + 1, (5, 5)),
    "from 10.0.0.1 5 fromdoor 80": ("from", labels_with(sender_door=80), TEN + 1, (5, 5)),
    "from 10.0.0.1 5 to 10.0.0.2-10.0.0.4": ("from", labels_with(receiver=(TEN + 2, TEN + 4)), TEN + 1, (5, 5)),
    "to 10.0.0.1 5 to 0.0.0.0/0": ("to", labels_with(), TEN + 1, (5, 5)),
    "to 10.0.0.1 8080 todoor 80-81": ("to", labels_with(receiver_door=(80, 81)), TEN + 1, (8080, 8080)),
    "  to   10.0.0.1  5   kind   6  ": ("to", labels_with(kind=6), TEN + 1, (5, 5)),
    "to 10.0.0.1 5 # the house": ("to", labels_with(), TEN + 1, (5, 5)),
    "to 10.0.0.1 5#kind 6": ("to", labels_with(), TEN + 1, (5, 5)),
    "to 10.0.0.1 5 kind 6 # turn 1": ("to", labels_with(kind=6), TEN + 1, (5, 5)),
}
PAIRS = {"kind": "6", "from": "10.0.0.0/24", "fromdoor": "1-9", "to": "1.2.3.4", "todoor": "443"}
PAIRED = ((6, 6), (TEN, TEN + 255), (1, 9), (16909060, 16909060), (443, 443))

REFUSED_CHANGES = (
    # No word, or too few of them.
    "", " ", "     ", "#", "  # from 10.0.0.1 5", "from", "to", "from 10.0.0.1", "to 10.0.0.1", "from 5", "10.0.0.1 5",
    "from #10.0.0.1 5", "from 10.0.0.1 #5",
    # Neither side, or both.
    "pass 10.0.0.1 5", "From 10.0.0.1 5", "TO 10.0.0.1 5", "fromdoor 10.0.0.1 5", "kind 10.0.0.1 5", "turn 10.0.0.1 5",
    "from to 10.0.0.1 5", "pass from 10.0.0.1 5", "change from 10.0.0.1 5", "fromm 10.0.0.1 5",
    # The parts in another order.
    "from 5 10.0.0.1", "10.0.0.1 from 5", "from kind 6 10.0.0.1 5", "from 10.0.0.1 kind 6 5", "kind 6 from 10.0.0.1 5",
    # No address alone.
    "from 10.0.0.0/24 5", "from 10.0.0.1/32 5", "from 10.0.0.1-10.0.0.2 5", "from 10.0.0.1-10.0.0.1 5",
    "from 10.0.0 5", "from 10.0.0.256 5", "from 10.0.0.01 5", "from 167772160 5",
    # No doors.
    "from 10.0.0.1 65536", "from 10.0.0.1 0-65536", "from 10.0.0.1 65536-65537", "from 10.0.0.1 2-1",
    "from 10.0.0.1 05", "from 10.0.0.1 1-02", "from 10.0.0.1 -5", "from 10.0.0.1 5-", "from 10.0.0.1 +5",
    "from 10.0.0.1 1-2-3", "from 10.0.0.1 1 - 2", "from 10.0.0.1 1- 2", "from 10.0.0.1 5/16", "from 10.0.0.1 x",
    "from 10.0.0.1 99999999999", "from 10.0.0.1 10.0.0.2", "from 10.0.0.1 kind",
    # A turn.
    "from 10.0.0.1 5 turn 0", "from 10.0.0.1 5 turn 0-3", "to 10.0.0.1 5 turn 3", "to 10.0.0.1 5 kind 6 turn 1",
    "to 10.0.0.1 5 turn 1 kind 6", "to 10.0.0.1 5 turn",
    # No pairs.
    "from 10.0.0.1 5 kind", "from 10.0.0.1 5 6", "from 10.0.0.1 5 5 kind 6", "from 10.0.0.1 5 kind 6 7",
    "from 10.0.0.1 5 kind kind 6", "from 10.0.0.1 5 door 6", "from 10.0.0.1 5 last", "from 10.0.0.1 5 Kind 6",
    "from 10.0.0.1 5 pass kind 6", "from 10.0.0.1 5 call guests",
    # A value that the pair can't have.
    "from 10.0.0.1 5 kind 256", "from 10.0.0.1 5 kind 6-256", "from 10.0.0.1 5 kind 06", "from 10.0.0.1 5 kind 7-6",
    "from 10.0.0.1 5 kind 6 - 7", "from 10.0.0.1 5 kind 10.0.0.1", "from 10.0.0.1 5 fromdoor 65536",
    "from 10.0.0.1 5 todoor 65536", "from 10.0.0.1 5 todoor 9-8", "from 10.0.0.1 5 from 6", "from 10.0.0.1 5 to 6",
    "from 10.0.0.1 5 from 10.0.0.2-10.0.0.1", "from 10.0.0.1 5 to 10.0.0.0/33", "from 10.0.0.1 5 to 10.0.0.0/08",
)


class Changes(Case):
    def test_read(self):
        for row, change in CHANGES.items():
            self.assertEqual(read_change(row), change, row)

    def test_pairs_in_any_order(self):
        for order in itertools.permutations(PAIRS):
            row = "to 9.9.9.9 1-2 " + " ".join(f"{word} {PAIRS[word]}" for word in order)
            self.assertEqual(read_change(row), ("to", PAIRED, 151587081, (1, 2)))

    def test_each_pair_alone(self):
        for place, word in enumerate(PAIRS):
            whole = labels_with()
            box = whole[:place] + PAIRED[place:place + 1] + whole[place + 1:]
            for side in ("from", "to"):
                self.assertEqual(read_change(f"{side} 9.9.9.9 1-2 {word} {PAIRS[word]}"), (side, box, 151587081, (1, 2)))

    def test_a_pair_twice(self):
        for word, value in PAIRS.items():
            for side in ("from", "to"):
                self.refused(read_change, f"{side} 9.9.9.9 1 {word} {value} {word} {value}")
                for between in PAIRS:
                    self.refused(read_change, f"{side} 9.9.9.9 1 {word} {value} {between} {PAIRS[between]} {word} {value}")

    def test_a_value_left_out(self):
        for word in PAIRS:
            self.refused(read_change, f"from 9.9.9.9 1 {word}")
            for behind in PAIRS:
                self.refused(read_change, f"from 9.9.9.9 1 {word} {behind} {PAIRS[behind]}")
                self.refused(read_change, f"from 9.9.9.9 1 {behind} {PAIRS[behind]} {word}")

    def test_a_turn_beside_each_pair(self):
        for word, value in PAIRS.items():
            self.refused(read_change, f"from 9.9.9.9 1 turn 0 {word} {value}")
            self.refused(read_change, f"from 9.9.9.9 1 {word} {value} turn 0-3")

    def test_refused(self):
        for row in REFUSED_CHANGES:
            self.refused(read_change, row)

    def test_kinds_and_arguments(self):
        for row in CHANGES:
            told = read_change(row)
            self.assertEqual([type(part) for part in (told,) + told], [tuple, str, tuple, int, tuple])
            self.assertEqual(len(told[1]), 5)
            for stretch in told[1] + (told[3],):
                self.assertEqual([type(part) for part in (stretch,) + stretch], [tuple, int, int])
        self.assertEqual(list(inspect.signature(read_change).parameters), ["row"])


class Refusals(unittest.TestCase):
    def test_no_row_stands_beside_the_others(self):
        self.assertTrue(issubclass(NoRow, SieveError))
        self.assertFalse(issubclass(NoRow, errors.NoAddress))


if __name__ == "__main__":
    unittest.main()
