"""Points 19 and 20: a parcel read rule by rule, chain within chain, and its path."""

import inspect
import unittest

from building import EVERY, PLACES, WHOLE, box_with, parcel_with
from sieve.books import Book
from sieve.reading import path, word_of

SIX = box_with(kind=6)
SEVEN = box_with(kind=7)
LOW = box_with(receiver_door=(0, 1023))

P6 = parcel_with(kind=6)
P7 = parcel_with(kind=7)
P6_HIGH = parcel_with(kind=6, receiver_door=1024)
P0 = parcel_with()

ALL_PASS = ("pass", EVERY)
ALL_STOP = ("stop", EVERY)
ALL_BACK = ("back", EVERY)


def looked(*steps):
    """A path, each step written as `name index` and a `+` where the rule fits."""
    told = []
    for step in steps:
        words = step.split()
        told.append((words[0], int(words[1]), words[2:] == ["+"]))
    return told


def call(name, box=EVERY):
    return ("call", box, name)


class Read(unittest.TestCase):
    def reads(self, chains, parcel, word, *steps):
        """Looks at the word with both defaults; None for a word that is the default."""
        for default in ("pass", "stop"):
            book = Book(default, chains)
            self.assertEqual(path(book, parcel), looked(*steps))
            self.assertEqual(word_of(book, parcel), word or default)
            self.assertEqual(book.told(), (default, chains))

    def test_no_rule_at_all(self):
        self.reads([("main", [])], P6, None)
        self.reads([("main", []), ("a", [ALL_PASS, ALL_STOP])], P6, None)

    def test_the_first_that_fits(self):
        chains = [("main", [("stop", SEVEN), ("pass", SIX), ALL_STOP, ALL_PASS])]
        self.reads(chains, P7, "stop", "main 0 +")
        self.reads(chains, P6, "pass", "main 0", "main 1 +")
        self.reads(chains, P0, "stop", "main 0", "main 1", "main 2 +")

    def test_the_other_order(self):
        chains = [("main", [ALL_PASS, ALL_STOP, ("stop", SIX)])]
        self.reads(chains, P6, "pass", "main 0 +")

    def test_the_default_where_none_fits(self):
        chains = [("main", [("stop", SEVEN), ("pass", SIX)])]
        self.reads(chains, P0, None, "main 0", "main 1")

    def test_back_in_main(self):
        chains = [("main", [("pass", SEVEN), ("back", SIX), ALL_PASS, ALL_STOP])]
        self.reads(chains, P6, None, "main 0", "main 1 +")
        self.reads(chains, P7, "pass", "main 0 +")
        self.reads(chains, P0, "pass", "main 0", "main 1", "main 2 +")
        self.reads([("main", [ALL_BACK])], P6, None, "main 0 +")

    def test_a_chain_that_comes_to_its_end(self):
        chains = [("main", [call("a"), ("stop", SIX), ALL_PASS]), ("a", [("pass", SEVEN), ("stop", SEVEN)])]
        self.reads(chains, P6, "stop", "main 0 +", "a 0", "a 1", "main 1 +")
        self.reads(chains, P0, "pass", "main 0 +", "a 0", "a 1", "main 1", "main 2 +")
        self.reads(chains, P7, "pass", "main 0 +", "a 0 +")

    def test_a_chain_that_comes_to_back(self):
        chains = [("main", [call("a"), ("stop", SIX)]), ("a", [("back", SIX), ALL_PASS])]
        self.reads(chains, P6, "stop", "main 0 +", "a 0 +", "main 1 +")
        self.reads(chains, P7, "pass", "main 0 +", "a 0", "a 1 +")

    def test_back_at_the_end_of_a_chain(self):
        chains = [("main", [call("a"), ALL_STOP]), ("a", [("pass", SEVEN), ALL_BACK])]
        self.reads(chains, P6, "stop", "main 0 +", "a 0", "a 1 +", "main 1 +")

    def test_a_chain_that_tells_a_word(self):
        chains = [("main", [("stop", SEVEN), call("a"), ALL_STOP]), ("a", [("pass", LOW), ("stop", SIX), ALL_PASS])]
        self.reads(chains, P6, "pass", "main 0", "main 1 +", "a 0 +")
        self.reads(chains, P6_HIGH, "stop", "main 0", "main 1 +", "a 0", "a 1 +")

    def test_a_call_that_does_not_fit(self):
        chains = [("main", [call("a", SEVEN), ("pass", SIX)]), ("a", [ALL_STOP])]
        self.reads(chains, P6, "pass", "main 0", "main 1 +")
        self.reads(chains, P0, None, "main 0", "main 1")
        self.reads(chains, P7, "stop", "main 0 +", "a 0 +")

    def test_a_call_of_a_chain_without_rules(self):
        chains = [("main", [call("a"), ("pass", SIX)]), ("a", [])]
        self.reads(chains, P6, "pass", "main 0 +", "main 1 +")
        self.reads(chains, P7, None, "main 0 +", "main 1")

    def test_a_call_as_the_last_rule(self):
        chains = [("main", [("stop", SEVEN), call("a")]), ("a", [("pass", SEVEN), ("back", SIX)])]
        self.reads(chains, P6, None, "main 0", "main 1 +", "a 0", "a 1 +")
        self.reads(chains, P0, None, "main 0", "main 1 +", "a 0", "a 1")

    def test_calls_within_calls(self):
        chains = [
            ("main", [call("a"), ("stop", SIX), ALL_PASS]),
            ("b", [("back", SIX), ("stop", SEVEN), ALL_PASS]),
            ("a", [("stop", SEVEN), call("b", LOW), ("pass", SIX), ALL_STOP]),
        ]
        self.reads(chains, P6, "pass", "main 0 +", "a 0", "a 1 +", "b 0 +", "a 2 +")
        self.reads(chains, P6_HIGH, "pass", "main 0 +", "a 0", "a 1", "a 2 +")
        self.reads(chains, P0, "pass", "main 0 +", "a 0", "a 1 +", "b 0", "b 1", "b 2 +")

    def test_back_ends_the_innermost_chain_alone(self):
        chains = [("main", [call("a"), ALL_STOP]), ("a", [call("b"), ("pass", SIX)]), ("b", [call("c"), ALL_BACK, ALL_STOP]),
                  ("c", [ALL_BACK, ALL_STOP])]
        self.reads(chains, P6, "pass", "main 0 +", "a 0 +", "b 0 +", "c 0 +", "b 1 +", "a 1 +")
        self.reads(chains, P7, "stop", "main 0 +", "a 0 +", "b 0 +", "c 0 +", "b 1 +", "a 1", "main 1 +")

    def test_a_chain_called_more_than_once(self):
        chains = [("main", [call("a", SIX), call("a"), ("stop", SIX), call("a", SEVEN), call("a")]),
                  ("a", [("pass", SEVEN), ("back", SIX), ("back", LOW)])]
        self.reads(chains, P6, "stop", "main 0 +", "a 0", "a 1 +", "main 1 +", "a 0", "a 1 +", "main 2 +")
        self.reads(chains, P0, None, "main 0", "main 1 +", "a 0", "a 1", "a 2 +", "main 2", "main 3",
                   "main 4 +", "a 0", "a 1", "a 2 +")

    def test_a_chain_that_nobody_calls(self):
        chains = [("main", [("pass", SEVEN)]), ("a", [call("b"), ALL_STOP]), ("b", [ALL_PASS])]
        self.reads(chains, P6, None, "main 0")
        self.reads(chains, P7, "pass", "main 0 +")

    def test_names_that_are_words_of_rules(self):
        chains = [("main", [call("stop"), call("back"), call("pass")]), ("pass", [ALL_STOP]), ("stop", [("pass", SEVEN)]),
                  ("back", [ALL_BACK])]
        self.reads(chains, P6, "stop", "main 0 +", "stop 0", "main 1 +", "back 0 +", "main 2 +", "pass 0 +")

    def test_calls_as_deep_as_they_may_be(self):
        names = ["main"] + ["a" * count for count in range(1, 13)] + ["b" * count for count in range(1, 13)]
        names += ["c" * count for count in range(1, 13)]
        chains = [(name, [call(called), ALL_STOP]) for name, called in zip(names, names[1:])] + [(names[-1], [ALL_BACK])]
        down = [f"{name} 0 +" for name in names]
        self.reads(chains, P6, "stop", *(down + [f"{names[-2]} 1 +"]))

    def test_as_many_rules_as_there_may_be(self):
        chains = [("main", [("stop", SEVEN)] * 119 + [ALL_PASS])]
        self.reads(chains, P6, "pass", *([f"main {index}" for index in range(119)] + ["main 119 +"]))

    def test_the_ends_of_each_stretch_and_one_off(self):
        for name in PLACES:
            greatest = WHOLE[name][1]
            for low, high in ((1, 1), (1, 2), (0, 1), (2, greatest), (0, greatest - 1), (greatest, greatest)):
                book = Book("stop", [("main", [("pass", box_with(**{name: (low, high)}))])])
                for number in {0, low - 1, low, high, high + 1, greatest}:
                    if 0 <= number <= greatest:
                        parcel = parcel_with(**{name: number})
                        fits = low <= number <= high
                        self.assertEqual(word_of(book, parcel), "pass" if fits else "stop")
                        self.assertEqual(path(book, parcel), [("main", 0, fits)])


class Told(unittest.TestCase):
    CHAINS = [("main", [call("a"), ("stop", SIX)]), ("a", [("pass", SEVEN), ("back", SIX)])]

    def test_the_list_is_the_askers_own(self):
        book = Book("pass", self.CHAINS)
        first = path(book, P6)
        whole = looked("main 0 +", "a 0", "a 1 +", "main 1 +")
        self.assertEqual(first, whole)
        first.clear()
        self.assertEqual(path(book, P6), whole)
        kept = path(book, P6)
        path(book, P6).append("x")
        word_of(book, P6)
        self.assertEqual(kept, whole)
        self.assertEqual(book.told(), ("pass", self.CHAINS))

    def test_kinds(self):
        told = path(Book("pass", self.CHAINS), P6)
        self.assertIs(type(told), list)
        for step in told:
            self.assertIs(type(step), tuple)
            self.assertEqual([type(part) for part in step], [str, int, bool])
        self.assertIs(type(word_of(Book("pass", self.CHAINS), P6)), str)

    def test_arguments(self):
        self.assertEqual(list(inspect.signature(word_of).parameters), ["book", "parcel"])
        self.assertEqual(list(inspect.signature(path).parameters), ["book", "parcel"])


if __name__ == "__main__":
    unittest.main()
