"""Points 15 and 16: a rule written as a row of words, what is refused, and a rule shown as a row."""

import inspect
import random
import unittest

from building import ADDRESS, EVERY, box_with, rule_by_chance
from sieve import errors
from sieve.errors import NoRow, SieveError
from sieve.texts import read_rule, show_rule

TEN = 167772160
HEADS = ("pass", "stop", "back", "call guests")
NUMBER_PAIRS = {"turn": ("turn", 3), "kind": ("kind", 255),
                "fromdoor": ("sender_door", 65535), "todoor": ("receiver_door", 65535)}
ADDRESS_PAIRS = {"from": "sender", "to": "receiver"}
PAIR_WORDS = ("turn", "kind", "from", "fromdoor", "to", "todoor")


def told_with(head, box):
    """The tuple of a rule whose first word or words are told as a text."""
    words = head.split()
    return ("call", box, words[1]) if words[0] == "call" else (head, box)


# Of each row that is shown, the rule; these rows are read as the rule too.
SHOWN = {
    "pass": ("pass", EVERY),
    "stop": ("stop", EVERY),
    "back": ("back", EVERY),
    "call guests": ("call", EVERY, "guests"),
    "call a": ("call", EVERY, "a"),
    "call abcdefghijkl": ("call", EVERY, "abcdefghijkl"),
    "call pass": ("call", EVERY, "pass"),
    "call call": ("call", EVERY, "call"),
    "call from from 10.0.0.1": ("call", box_with(sender=TEN + 1), "from"),
    "call todoor todoor 1": ("call", box_with(receiver_door=1), "todoor"),
    "stop turn 0": ("stop", box_with(turn=0)),
    "stop turn 3": ("stop", box_with(turn=3)),
    "stop turn 0-2": ("stop", box_with(turn=(0, 2))),
    "stop turn 1-3": ("stop", box_with(turn=(1, 3))),
    "back kind 255": ("back", box_with(kind=255)),
    "back kind 1-255": ("back", box_with(kind=(1, 255))),
    "back kind 0-254": ("back", box_with(kind=(0, 254))),
    "back kind 6-17": ("back", box_with(kind=(6, 17))),
    "pass fromdoor 0": ("pass", box_with(sender_door=0)),
    "pass fromdoor 65535": ("pass", box_with(sender_door=65535)),
    "pass fromdoor 1024-65535": ("pass", box_with(sender_door=(1024, 65535))),
    "pass todoor 80": ("pass", box_with(receiver_door=80)),
    "pass todoor 0-65534": ("pass", box_with(receiver_door=(0, 65534))),
    "pass todoor 8-15": ("pass", box_with(receiver_door=(8, 15))),
    "pass from 0.0.0.0": ("pass", box_with(sender=0)),
    "pass from 255.255.255.255": ("pass", box_with(sender=ADDRESS)),
    "pass from 10.0.0.0/8": ("pass", box_with(sender=(TEN, TEN + 2 ** 24 - 1))),
    "pass from 0.0.0.0/1": ("pass", box_with(sender=(0, 2 ** 31 - 1))),
    "pass from 128.0.0.0/1": ("pass", box_with(sender=(2 ** 31, ADDRESS))),
    "pass from 10.0.0.2/31": ("pass", box_with(sender=(TEN + 2, TEN + 3))),
    "pass from 10.0.0.1-10.0.0.2": ("pass", box_with(sender=(TEN + 1, TEN + 2))),
    "pass from 0.0.0.1-255.255.255.255": ("pass", box_with(sender=(1, ADDRESS))),
    "pass to 10.0.0.9": ("pass", box_with(receiver=TEN + 9)),
    "pass to 10.0.0.0/24": ("pass", box_with(receiver=(TEN, TEN + 255))),
    "pass to 255.255.255.254/31": ("pass", box_with(receiver=(ADDRESS - 1, ADDRESS))),
    "pass to 0.0.0.0-255.255.255.254": ("pass", box_with(receiver=(0, ADDRESS - 1))),
    "pass to 10.0.0.0-10.0.0.254": ("pass", box_with(receiver=(TEN, TEN + 254))),
    "call guests turn 1 kind 6-17 from 10.0.0.0/24 fromdoor 1-9 to 1.2.3.4-1.2.3.6 todoor 443":
        ("call", ((1, 1), (6, 17), (TEN, TEN + 255), (1, 9), (16909060, 16909062), (443, 443)), "guests"),
    "stop kind 6 to 0.0.0.0 todoor 0": ("stop", box_with(kind=6, receiver=0, receiver_door=0)),
    "back turn 2 fromdoor 7": ("back", box_with(turn=2, sender_door=7)),
}

# Rows that are read, but shown otherwise.
READ = {
    "pass turn 0-3": "pass",
    "pass kind 0-255 from 0.0.0.0/0 fromdoor 0-65535 to 0.0.0.0-255.255.255.255 todoor 0-65535 turn 0-3": "pass",
    "pass from 255.255.255.255/0": "pass",
    "pass turn 2-2": "pass turn 2",
    "pass kind 0-0": "pass kind 0",
    "pass todoor 65535-65535": "pass todoor 65535",
    "pass from 10.0.0.1-10.0.0.1": "pass from 10.0.0.1",
    "pass from 10.0.0.1/32": "pass from 10.0.0.1",
    "pass to 10.0.0.200/24": "pass to 10.0.0.0/24",
    "pass to 10.0.0.255/31": "pass to 10.0.0.254/31",
    "pass to 255.255.255.255/1": "pass to 128.0.0.0/1",
    "pass to 10.0.0.0-10.0.0.255": "pass to 10.0.0.0/24",
    "pass from 0.0.0.0-127.255.255.255": "pass from 0.0.0.0/1",
    "pass from 10.0.0.2-10.0.0.3": "pass from 10.0.0.2/31",
    "stop todoor 4 to 0.0.0.3 fromdoor 2 from 0.0.0.1 kind 5 turn 1":
        "stop turn 1 kind 5 from 0.0.0.1 fromdoor 2 to 0.0.0.3 todoor 4",
    "call todoor todoor 4 turn 1": "call todoor turn 1 todoor 4",
    "   call    guests     kind   6   ": "call guests kind 6",
    " pass": "pass",
    "pass ": "pass",
    "pass#": "pass",
    "pass # stop": "pass",
    "pass#stop": "pass",
    "pass kind 6# kind 7": "pass kind 6",
    "pass kind 6#7": "pass kind 6",
    "pass # kind 6": "pass",
    "pass from 10.0.0.0#/8": "pass from 10.0.0.0",
    "call guests# kind": "call guests",
    "back ## # x": "back",
}


class Shown(unittest.TestCase):
    def test_rows(self):
        for row, told in SHOWN.items():
            self.assertEqual(show_rule(told), row)

    def test_each_stretch_with_each_head(self):
        for head in HEADS:
            self.assertEqual(show_rule(told_with(head, EVERY)), head)
            for word, (name, greatest) in NUMBER_PAIRS.items():
                for stretch, shown in (((0, 0), "0"), ((1, 1), "1"), ((greatest, greatest), str(greatest)),
                                       ((0, 1), "0-1"), ((1, greatest), f"1-{greatest}")):
                    told = told_with(head, box_with(**{name: stretch}))
                    self.assertEqual(show_rule(told), f"{head} {word} {shown}")
            for word, name in ADDRESS_PAIRS.items():
                for stretch, shown in (((0, 0), "0.0.0.0"), ((0, 1), "0.0.0.0/31"), ((1, 2), "0.0.0.1-0.0.0.2"),
                                       ((1, ADDRESS), "0.0.0.1-255.255.255.255"), ((2 ** 31, ADDRESS), "128.0.0.0/1")):
                    told = told_with(head, box_with(**{name: stretch}))
                    self.assertEqual(show_rule(told), f"{head} {word} {shown}")

    def test_each_beginning(self):
        for bits in range(1, 32):
            high = 2 ** (32 - bits) - 1
            self.assertEqual(show_rule(("pass", box_with(receiver=(0, high)))), f"pass to 0.0.0.0/{bits}")

    def test_numbers_are_no_addresses(self):
        # Stretches of doors that are as wide as a beginning are still shown with a dash.
        self.assertEqual(show_rule(("pass", box_with(sender_door=(0, 255)))), "pass fromdoor 0-255")
        self.assertEqual(show_rule(("pass", box_with(kind=(0, 3)))), "pass kind 0-3")

    def test_kind_and_arguments(self):
        self.assertIs(type(show_rule(("pass", EVERY))), str)
        self.assertEqual(list(inspect.signature(show_rule).parameters), ["told"])


class Read(unittest.TestCase):
    def test_what_is_shown(self):
        for row, told in SHOWN.items():
            self.assertEqual(read_rule(row), told)

    def test_other_ways_to_write(self):
        for row, shown in READ.items():
            self.assertEqual(read_rule(row), SHOWN.get(shown, read_rule(shown)), row)
            self.assertEqual(show_rule(read_rule(row)), shown, row)

    def test_pairs_in_any_order(self):
        pairs = ["turn 1", "kind 2-3", "from 0.0.0.4/30", "fromdoor 5", "to 0.0.0.6", "todoor 7-8"]
        box = ((1, 1), (2, 3), (4, 7), (5, 5), (6, 6), (7, 8))
        chance = random.Random(15)
        for count in range(200):
            chance.shuffle(pairs)
            self.assertEqual(read_rule("stop " + " ".join(pairs)), ("stop", box))

    def test_every_number_of_each_stretch(self):
        for word, (name, greatest) in NUMBER_PAIRS.items():
            for number in list(range(0, greatest + 1, 1 + greatest // 300)) + [greatest - 1, greatest]:
                self.assertEqual(read_rule(f"pass {word} {number}"), ("pass", box_with(**{name: number})))
                self.assertEqual(read_rule(f"pass {word} 0-{number}"), ("pass", box_with(**{name: (0, number)})))
                self.assertEqual(read_rule(f"pass {word} {number}-{greatest}"),
                                 ("pass", box_with(**{name: (number, greatest)})))

    def test_every_number_of_bits(self):
        for word, name in ADDRESS_PAIRS.items():
            for bits in range(33):
                size = 2 ** (32 - bits)
                low = 0xAAAAAAAA // size * size
                self.assertEqual(read_rule(f"back {word} 170.170.170.170/{bits}"),
                                 ("back", box_with(**{name: (low, low + size - 1)})))

    def test_blanks_wherever_they_may_stand(self):
        told = ("call", box_with(kind=6, receiver_door=80), "guests")
        for blanks in (" ", "  ", " " * 500):
            row = blanks + blanks.join(["call", "guests", "kind", "6", "todoor", "80"]) + blanks
            self.assertEqual(read_rule(row), told)

    def test_a_remark_may_hold_any_sign(self):
        for code in range(32, 127):
            self.assertEqual(read_rule("pass kind 1#" + chr(code) * 3), ("pass", box_with(kind=1)))

    def test_names(self):
        for name in ("a", "z", "zz", "abcdefghijkl", "zzzzzzzzzzzz", "pass", "stop", "back", "call", "chain", "default",
                     "main") + PAIR_WORDS:
            self.assertEqual(read_rule("call " + name), ("call", EVERY, name))
            self.assertEqual(read_rule(f"call {name} turn 1"), ("call", box_with(turn=1), name))
            self.assertEqual(show_rule(("call", EVERY, name)), "call " + name)

    def test_what_is_shown_is_read_as_the_same_rule(self):
        chance = random.Random(16)
        for count in range(2000):
            told = rule_by_chance(chance, ["a", "pass", "to"])
            self.assertEqual(read_rule(show_rule(told)), told)

    def test_kinds(self):
        told = read_rule("call a turn 0-1 from 0.0.0.0/31 todoor 0-1")
        self.assertEqual([type(part) for part in told], [str, tuple, str])
        for stretch in told[1]:
            self.assertEqual([type(stretch), type(stretch[0]), type(stretch[1])], [tuple, int, int])
        self.assertEqual(len(read_rule("pass")), 2)
        self.assertEqual(list(inspect.signature(read_rule).parameters), ["row"])


class Refused(unittest.TestCase):
    def refused(self, row):
        for error in (NoRow, SieveError, ValueError):
            with self.assertRaises(error, msg=repr(row)) as caught:
                read_rule(row)
            self.assertIs(type(caught.exception), NoRow, repr(row))
            self.assertEqual(caught.exception.row, 1, repr(row))
            self.assertIs(type(caught.exception.row), int)
        others = [one for one in vars(errors).values() if isinstance(one, type) and one not in (NoRow, SieveError)]
        self.assertFalse([one for one in others if isinstance(caught.exception, one)], repr(row))

    def all_refused(self, *rows):
        for row in rows:
            self.refused(row)

    def value_refused(self, words, value):
        for word in words:
            self.all_refused(f"pass {word} {value}", f"call a {word} {value}", f"stop {word} {value} # x")

    def test_no_word(self):
        self.all_refused("", " ", "        ", "#", " #", "#pass", "# pass", "   # pass")

    def test_another_first_word(self):
        self.all_refused("go", "Pass", "PASS", "pasS", "passs", "pas", "p", "stopp", "backs", "calls a", "Call a",
                         "kind 6", "kind", "turn 1", "default pass", "default", "chain a", "chain", "pass-stop",
                         "guests", "6", "-", "pass, kind 6", "pass: kind 6", "pass;", "reject")

    def test_a_call_without_its_name(self):
        self.all_refused("call", "call ", " call  ", "call#a", "call # a", "call #")

    def test_a_name_that_is_none(self):
        for name in ("a" * 13, "a" * 60, "A", "Guests", "guestS", "a1", "1", "1a", "a-b", "a_b", "-", "a.b", "a,", "a/"):
            self.all_refused("call " + name, f"call {name} kind 6", f"call  {name}  # x")
        for code in range(32, 127):
            if chr(code) not in "abcdefghijklmnopqrstuvwxyz #":
                self.all_refused("call " + chr(code), "call a" + chr(code), "call a" + chr(code) + "a")

    def test_two_names(self):
        self.all_refused("call a b", "call a a", "call pass pass", "call a b kind 6")

    def test_a_name_where_none_stands(self):
        for head in ("pass", "stop", "back"):
            self.all_refused(head + " a", head + " guests kind 6", head + " " + head, head + " pass")

    def test_two_first_words(self):
        self.all_refused("pass stop", "pass call a", "back stop kind 6", "stop call a kind 6")

    def test_a_pair_twice(self):
        for pair in ("turn 1", "kind 6", "from 1.2.3.4", "fromdoor 5", "to 1.2.3.4", "todoor 5"):
            self.all_refused(f"pass {pair} {pair}", f"call a {pair} {pair}")
        self.all_refused("pass kind 6 kind 7", "pass kind 6 todoor 1 kind 0-255", "pass turn 0-3 turn 0-3",
                         "pass from 0.0.0.0/0 from 0.0.0.0/0", "stop to 1.2.3.4 kind 6 to 1.2.3.4")

    def test_a_pair_without_its_value(self):
        for head in HEADS:
            for word in PAIR_WORDS:
                self.all_refused(f"{head} {word}", f"{head} {word} # 1", f"{head} {word}#1")
                other = "todoor 1" if word == "kind" else "kind 1"
                self.all_refused(f"{head} {other} {word}", f"{head} {word} {other}")

    def test_a_word_that_begins_no_pair(self):
        self.all_refused("pass kinds 6", "pass Kind 6", "pass door 6", "pass fromdoors 6", "pass sender 1.2.3.4",
                         "pass 6 kind", "pass from-door 5", "pass 6 6", "pass kind=6", "pass kind=6 x", "pass kin 6",
                         "pass turn 1 x 2", "pass x 2 turn 1", "pass chain a", "pass default 1", "pass call a")

    def test_a_word_more(self):
        for head in HEADS:
            self.all_refused(head + " x", head + " kind 6 x", head + " kind 6 7", head + " kind 6 from 1.2.3.4 -",
                             head + " turn 1 kind 6 from 1.2.3.4 fromdoor 1 to 1.2.3.4 todoor 1 x",
                             head + " turn 1 kind 6 from 1.2.3.4 fromdoor 1 to 1.2.3.4 todoor 1 turn 1",
                             head + " turn 1 kind 6 from 1.2.3.4 fromdoor 1 to 1.2.3.4 todoor 1 x 1")

    def test_numbers_above_the_greatest(self):
        for word, (name, greatest) in NUMBER_PAIRS.items():
            for number in (greatest + 1, greatest + 2, greatest * 10, 99999999, 4294967295, 9999999999):
                for value in (f"{number}", f"0-{number}", f"{number}-{number}", f"{number}-0"):
                    self.value_refused([word], value)

    def test_noughts_ahead(self):
        for number in ("00", "01", "001", "0000000001", "00000000001"):
            for value in (number, "0-" + number, number + "-3"):
                self.value_refused(NUMBER_PAIRS, value)

    def test_eleven_figures_and_more(self):
        for number in ("1" * 11, "0" * 11, "10000000000", "1" * 5000, "9" * 50000):
            for value in (number, "0-" + number, number + "-3"):
                self.value_refused(NUMBER_PAIRS, value)
            self.value_refused(ADDRESS_PAIRS, "1.2.3.4/" + number)
            self.value_refused(ADDRESS_PAIRS, number)

    def test_signs_about_numbers(self):
        for value in ("+1", "-1", "-0", "1+", "+0", "1_0", "1.0", "1,", "0x1", "a", "1a", "one", "*", "1:2", "0,1", "0..1",
                      "1e0", "'1'", "(1)", "1/1", "0/0", "1.2.3.4", "0.0.0.0", "0.0.0.0/0", "/1"):
            self.value_refused(NUMBER_PAIRS, value)

    def test_nothing_about_the_dash(self):
        for value in ("-", "1-", "-1", "--", "1--2", "1--", "--1", "0-1-2", "0-1-", "-0-1", "0-0-0"):
            self.value_refused(NUMBER_PAIRS, value)
        for value in ("-", "1.2.3.4-", "-1.2.3.4", "1.2.3.4--1.2.3.5", "1.2.3.4-1.2.3.5-1.2.3.6", "1.2.3.4-1.2.3.4-"):
            self.value_refused(ADDRESS_PAIRS, value)

    def test_the_first_above_the_second(self):
        for value in ("1-0", "3-2", "3-0", "2-1"):
            self.value_refused(NUMBER_PAIRS, value)
        # As texts these would stand in the right order.
        self.value_refused(["kind", "todoor"], "10-9")
        self.value_refused(["kind", "fromdoor"], "100-20")
        for value in ("1.2.3.4-1.2.3.3", "0.0.0.1-0.0.0.0", "10.0.0.0-9.255.255.255", "255.255.255.255-0.0.0.0"):
            self.value_refused(ADDRESS_PAIRS, value)

    def test_bits(self):
        for bits in ("33", "34", "99", "320", "", "00", "01", "08", "032", "024", "-1", "+8", "8-9", "8/8", "/8", "a", "8a",
                     "1.2.3.4", "255.0.0.0", "4294967295", "9999999999"):
            self.value_refused(ADDRESS_PAIRS, "1.2.3.4/" + bits)

    def test_bits_with_two_ends(self):
        self.value_refused(ADDRESS_PAIRS, "1.2.3.4/8-1.2.3.5")
        self.value_refused(ADDRESS_PAIRS, "1.2.3.4-1.2.3.5/8")
        self.value_refused(ADDRESS_PAIRS, "1.2.3.4/32-1.2.3.4/32")

    def test_numbers_that_are_no_addresses(self):
        for value in ("1/2", "0/0", "1/32", "/8", "/", "1.2.3/8", "1.2.3.4.5/8", "1.2.3.256/8", "8/1.2.3.4", "0", "1", "1-2",
                      "4294967295", "0-4294967295"):
            self.value_refused(ADDRESS_PAIRS, value)

    def test_addresses_that_are_none(self):
        for address in ("1.2.3", "1.2", "1.2.3.4.5", "1.2.3.256", "256.2.3.4", "1.2.3.", ".1.2.3", "1..3.4", "01.2.3.4",
                        "1.2.3.04", "1.2.3.4a", "a.b.c.d", "1,2,3,4", "1.2.3.+4", "...", "any", "1.2.3.999999999999"):
            for value in (address, address + "-255.255.255.255", "0.0.0.0-" + address, address + "/8", "0.0.0.0/" + address):
                self.value_refused(ADDRESS_PAIRS, value)

    def test_blanks_within_a_value(self):
        for value in ("0 -1", "0- 1", "0 - 1", "0 1", "1 0"):
            self.value_refused(NUMBER_PAIRS, value)
        for value in ("1.2.3.4 /8", "1.2.3.4/ 8", "1.2.3.4 / 8", "1.2. 3.4", "1 .2.3.4", "1.2.3.4 -1.2.3.5",
                      "1.2.3.4- 1.2.3.5", "1.2.3.4 - 1.2.3.5"):
            self.value_refused(ADDRESS_PAIRS, value)

    def test_a_remark_that_takes_away_what_is_needed(self):
        self.all_refused("pass kind#6", "pass kind # 6", "call #a", "pass kind 0-#1", "pass from 1.2.3#.4",
                         "pass from 1.2.3.4/#8", "pa#ss")

    def test_long_rows(self):
        self.all_refused("pass " + "x " * 29000, "pass" + " kind 6" * 8000, "x" * 60000, "pass from " + "1." * 29000,
                         "pass kind " + "1-" * 29000, "pass to 1.2.3.4/" + "/" * 59000, "call " + "a" * 59000)


if __name__ == "__main__":
    unittest.main()
