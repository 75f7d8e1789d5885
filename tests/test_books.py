"""Point 17, and point 2 where books keep and tell lists: chains, lengths and the four refusals."""

import copy
import inspect
import unittest

from sieve.books import Book
from sieve.errors import NoChain, Ring, SieveError, TooLong, TwoChains
from sieve.rules import Back, Call, Rule, Word, every

ALL = every()
BOX = ((1, 2), (6, 17), (167772160, 167772415), (1024, 65535), (5, 5), (80, 443))
PASS = ("pass", ALL)
STOP = ("stop", BOX)
BACK = ("back", BOX)
REFUSALS = (TwoChains, NoChain, Ring, TooLong)


def call(name):
    return ("call", BOX, name)


def calls(text):
    """A list of rules that call the names of the text."""
    return [call(name) for name in text.split()]


def chains_of(written):
    """A list of chains, each of rules that call: `main: a b / a: b / b:`."""
    chains = []
    for part in written.split("/"):
        name, sign, names = part.partition(":")
        chains.append((name.strip(), calls(names)))
    return chains


EXAMPLE = [
    ("main", [PASS, call("guests"), STOP, call("late"), call("guests"), BACK]),
    ("empty", []),
    ("guests", [STOP, call("late"), BACK]),
    ("alone", [PASS, PASS]),
    ("late", [PASS]),
]


class Told(unittest.TestCase):
    def test_the_default(self):
        for word in ("pass", "stop"):
            book = Book(word, [("main", [])])
            self.assertEqual(book.default, word)
            self.assertEqual(book.told(), (word, [("main", [])]))

    def test_the_order_of_the_chains(self):
        book = Book("pass", copy.deepcopy(EXAMPLE))
        self.assertEqual(book.chain_names(), ["main", "empty", "guests", "alone", "late"])
        self.assertEqual(book.told(), ("pass", EXAMPLE))

    def test_the_other_order(self):
        turned = EXAMPLE[:1] + EXAMPLE[:0:-1]
        book = Book("stop", turned)
        self.assertEqual(book.chain_names(), ["main", "late", "alone", "guests", "empty"])
        self.assertEqual(book.told(), ("stop", turned))

    def test_names_that_are_words_of_rules(self):
        names = ["main", "pass", "stop", "back", "call", "from", "turn", "chain", "default", "abcdefghijkl"]
        book = Book("pass", [("main", calls(" ".join(names[1:])))] + [(name, [PASS]) for name in names[1:]])
        self.assertEqual(book.chain_names(), names)
        self.assertEqual(book.length(), 18)
        self.assertEqual(book.chain("main")[0].told(), call("pass"))

    def test_kinds(self):
        told = Book("pass", EXAMPLE).told()
        self.assertEqual([type(told), type(told[0]), type(told[1])], [tuple, str, list])
        for chain in told[1]:
            self.assertEqual([type(chain), type(chain[0]), type(chain[1])], [tuple, str, list])
            for rule in chain[1]:
                self.assertIs(type(rule), tuple)
        self.assertIs(type(Book("pass", EXAMPLE).chain_names()), list)


class Chain(unittest.TestCase):
    def test_its_rules_as_objects(self):
        book = Book("pass", EXAMPLE)
        for name, rules in EXAMPLE:
            chain = book.chain(name)
            self.assertIs(type(chain), list)
            self.assertEqual([rule.told() for rule in chain], rules)
            for rule in chain:
                self.assertIsInstance(rule, Rule)
        self.assertEqual([type(rule) for rule in book.chain("main")], [Word, Call, Word, Call, Call, Back])

    def test_without_rules(self):
        self.assertEqual(Book("pass", EXAMPLE).chain("empty"), [])

    def test_rule_by_rule(self):
        book = Book("pass", EXAMPLE)
        for name, rules in EXAMPLE:
            self.assertEqual([book.rule_at(name, index).told() for index in range(len(rules))], rules)
            self.assertIsNone(book.rule_at(name, len(rules)))

    def test_another_name(self):
        book = Book("pass", EXAMPLE)
        for name in ("nobody", "guest", "guestss", "mai", "pass", "a"):
            with self.assertRaises(NoChain) as caught:
                book.chain(name)
            self.assertIs(type(caught.exception), NoChain)
            self.assertEqual(caught.exception.name, name)
        self.assertEqual(book.told(), ("pass", EXAMPLE))


class Length(unittest.TestCase):
    def length(self, chains):
        told = Book("pass", chains).length()
        self.assertIs(type(told), int)
        return told

    def test_no_rules(self):
        self.assertEqual(self.length([("main", [])]), 0)

    def test_rules_that_do_not_call(self):
        self.assertEqual(self.length([("main", [PASS])]), 1)
        self.assertEqual(self.length([("main", [PASS, STOP, BACK])]), 3)

    def test_of_each_chain(self):
        book = Book("pass", EXAMPLE)
        lengths = [(name, book.length_of(name)) for name in book.chain_names()]
        self.assertEqual(lengths, [("main", 15), ("empty", 0), ("guests", 4), ("alone", 2), ("late", 1)])

    def test_chains_that_nobody_calls(self):
        self.assertEqual(self.length([("main", [PASS]), ("alone", [PASS] * 7)]), 1)
        self.assertEqual(self.length([("main", []), ("alone", calls("other")), ("other", [PASS] * 7)]), 0)

    def test_a_call_of_a_chain_without_rules(self):
        self.assertEqual(self.length(chains_of("main: a a / a:")), 2)

    def test_calls_within_calls(self):
        self.assertEqual(self.length(chains_of("main: a / a: b / b: c / c: d / d:")), 4)
        self.assertEqual(self.length([("main", calls("a")), ("a", calls("b") + [PASS]), ("b", [STOP, STOP])]), 5)

    def test_a_chain_that_is_called_more_than_once(self):
        self.assertEqual(self.length([("main", calls("a a a")), ("a", [PASS, BACK])]), 9)
        self.assertEqual(self.length(chains_of("main: a a / a: b b / b: c c / c:")), 14)
        self.assertEqual(self.length([("main", calls("a b")), ("a", calls("b b")), ("b", [PASS] * 5)]), 19)

    def test_as_told_in_the_example(self):
        self.assertEqual(self.length(EXAMPLE), 15)

    def test_called_chains_ahead_and_behind(self):
        for names in ("abc", "acb", "bac", "bca", "cab", "cba"):
            rules = {"a": calls("b b"), "b": calls("c") + [PASS], "c": [PASS] * 3}
            chains = [("main", calls("a c"))] + [(name, rules[name]) for name in names]
            self.assertEqual(self.length(chains), 17)


class Refused(unittest.TestCase):
    def refused(self, chains, error):
        """The refusal of a book, which is taken as error, SieveError and ValueError, and as no other one."""
        for word in ("pass", "stop"):
            for base in (error, SieveError, ValueError):
                with self.assertRaises(base) as caught:
                    Book(word, copy.deepcopy(chains))
        refusal = caught.exception
        self.assertIs(type(refusal), error, refusal)
        self.assertEqual([one for one in REFUSALS if isinstance(refusal, one)], [error])
        return refusal

    def is_ring(self, chains, names):
        """That names are unlike, and each one's chain calls the next, and the last one's the first."""
        self.assertIs(type(names), list)
        self.assertGreater(len(names), 0)
        self.assertEqual(len(names), len(set(names)))
        rules = dict(chains)
        for place, name in enumerate(names):
            after = names[(place + 1) % len(names)]
            self.assertIn(after, [rule[2] for rule in rules[name] if rule[0] == "call"], names)


class TwoChainsAlone(Refused):
    def test_a_name_twice(self):
        chains = [("main", [PASS]), ("a", []), ("a", [STOP])]
        self.assertEqual(self.refused(chains, TwoChains).name, "a")

    def test_alike_in_all(self):
        self.assertEqual(self.refused(chains_of("main: a / a: / a:"), TwoChains).name, "a")

    def test_main_a_second_time(self):
        self.assertEqual(self.refused(chains_of("main: / main:"), TwoChains).name, "main")
        self.assertEqual(self.refused(chains_of("main: / a: / b: / main:"), TwoChains).name, "main")

    def test_the_first_whose_name_a_chain_ahead_has(self):
        for written, name in (
            ("main: / a: / b: / b: / a:", "b"),
            ("main: / a: / b: / a: / b:", "a"),
            ("main: / a: / b: / a: / a: / b: / main:", "a"),
            ("main: / a: / b: / main: / b: / a:", "main"),
            ("main: / a: / b: / c: / c: / main:", "c"),
        ):
            self.assertEqual(self.refused(chains_of(written), TwoChains).name, name, written)

    def test_three_times(self):
        self.assertEqual(self.refused(chains_of("main: / x: / x: / x:"), TwoChains).name, "x")


class NoChainAlone(Refused):
    def test_in_main(self):
        self.assertEqual(self.refused(chains_of("main: nobody"), NoChain).name, "nobody")

    def test_in_a_chain_that_nobody_calls(self):
        self.assertEqual(self.refused(chains_of("main: / a: nobody"), NoChain).name, "nobody")

    def test_the_first_chain_by_chain_rule_by_rule(self):
        for written, name in (
            ("main: x y", "x"),
            ("main: y x", "y"),
            ("main: a y / a: x", "y"),
            ("main: a / a: x / b: y", "x"),
            ("main: b / b: y / a: x", "y"),
            ("main: b a / a: a b b x / b: y", "x"),
        ):
            self.assertEqual(self.refused(chains_of(written), NoChain).name, name, written)

    def test_among_other_rules(self):
        chains = [("main", [PASS, STOP, call("a")]), ("a", [BACK, STOP, call("gone"), PASS, call("lost")])]
        self.assertEqual(self.refused(chains, NoChain).name, "gone")

    def test_words_that_are_no_names_here(self):
        for name in ("pass", "stop", "back", "call"):
            self.assertEqual(self.refused([("main", [PASS, STOP, BACK, call(name)])], NoChain).name, name)


class RingAlone(Refused):
    def ring(self, written):
        chains = chains_of(written)
        names = self.refused(chains, Ring).names
        self.is_ring(chains, names)
        return names

    def test_a_chain_that_calls_itself(self):
        self.assertEqual(self.ring("main: main"), ["main"])
        self.assertEqual(self.ring("main: a / a: a"), ["a"])
        self.assertEqual(self.ring("main: / a: a"), ["a"])

    def test_two_that_call_each_other(self):
        self.assertEqual(sorted(self.ring("main: a / a: main")), ["a", "main"])
        self.assertEqual(sorted(self.ring("main: a / a: b / b: a")), ["a", "b"])
        self.assertEqual(sorted(self.ring("main: / a: b / b: a")), ["a", "b"])

    def test_longer_ones(self):
        self.assertEqual(len(self.ring("main: a / a: b / b: c / c: main")), 4)
        self.assertEqual(len(self.ring("main: a / a: b / b: c / c: d / d: b")), 3)
        self.assertEqual(len(self.ring("main: a / d: b / c: d / b: c / a: b")), 3)

    def test_as_long_as_a_book_may_be(self):
        names = [f"{one}{other}" for one in "abcd" for other in "abcdefghij"][:39]
        links = [(name, calls(after)) for name, after in zip(names, names[1:] + names[:1])]
        for chains in ([("main", [])] + links, [("main", calls("aa"))] + links[::-1]):
            ring = self.refused(chains, Ring).names
            self.is_ring(chains, ring)
            self.assertEqual(len(ring), 39)

    def test_among_chains_that_main_does_not_come_to(self):
        self.assertEqual(sorted(self.ring("main: z / z: / a: b / b: c z / c: a")), ["a", "b", "c"])
        self.assertEqual(self.ring("main: z / z: / a: b / b: c / c: z c"), ["c"])

    def test_behind_calls_that_come_to_an_end(self):
        self.assertEqual(sorted(self.ring("main: z z a / z: y / y: / a: z y b z / b: y z a")), ["a", "b"])

    def test_chains_that_lead_to_a_ring_are_not_in_it(self):
        self.assertEqual(self.ring("main: a / a: b / b: c / c: c"), ["c"])
        self.assertEqual(self.ring("main: a / a: b / b: c z / c: c / z:"), ["c"])

    def test_several_rings(self):
        self.ring("main: a b / a: a / b: b")
        self.ring("main: a / a: b main / b: a b")
        self.ring("main: a / a: b c / b: a / c: a b c main")
        self.ring("main: / a: b / b: a / c: d / d: c")

    def test_called_more_than_once_is_no_ring(self):
        self.assertEqual(Book("pass", chains_of("main: a b a b / a: c c / b: c a / c:")).length(), 16)


class TooLongAlone(Refused):
    def test_lengths_up_to_120(self):
        for count in (118, 119, 120):
            self.assertEqual(Book("pass", [("main", [PASS] * count)]).length(), count)

    def test_lengths_above_120(self):
        for count in (121, 122, 150, 240, 300):
            self.assertEqual(self.refused([("main", [PASS] * count)], TooLong).total, count)

    def test_by_calls(self):
        for count in (57, 58, 59):
            self.assertEqual(Book("pass", [("main", calls("a a")), ("a", [STOP] * count)]).length(), 2 + 2 * count)
        self.assertEqual(self.refused([("main", calls("a a") + [PASS]), ("a", [STOP] * 59)], TooLong).total, 121)
        self.assertEqual(self.refused([("main", calls("a a")), ("a", [STOP] * 60)], TooLong).total, 122)

    def test_by_calls_within_calls(self):
        chains = [("main", calls("a a")), ("a", calls("b b")), ("b", [PASS] * 28)]
        self.assertEqual(Book("pass", chains).length(), 118)
        chains = [("main", calls("a a") + [PASS] * 2), ("a", calls("b b")), ("b", [PASS] * 28)]
        self.assertEqual(Book("pass", chains).length(), 120)
        chains = [("main", calls("a a") + [PASS] * 3), ("a", calls("b b")), ("b", [PASS] * 28)]
        self.assertEqual(self.refused(chains, TooLong).total, 121)

    def test_the_value_is_a_whole_number(self):
        self.assertIs(type(self.refused([("main", [PASS] * 121)], TooLong).total), int)

    def test_chains_that_main_does_not_come_to_may_be_longer(self):
        chains = [("main", [PASS]), ("a", [STOP] * 130), ("b", calls("a a"))]
        self.assertEqual(Book("pass", chains).length(), 1)

    def test_a_length_beyond_all_counting(self):
        names = [f"{one}{other}" for one in "abcd" for other in "abcdefghij"][:39]
        rules = [calls(" ".join([after] * 7)) for after in names]
        chains = [(name, rule) for name, rule in zip(["main"] + names, rules + [[]])]
        expected = 0
        for step in range(39):
            expected = 7 + 7 * expected
        self.assertEqual(self.refused(chains, TooLong).total, expected)
        self.assertEqual(Book("pass", [("main", [PASS])] + chains[1:]).length(), 1)

    def test_a_book_beyond_the_bounds_is_not_refused(self):
        names = [f"{one}{other}" for one in "abcdef" for other in "abcdefghij"]
        chains = [("main", calls(names[0]))] + [(name, calls(after)) for name, after in zip(names, names[1:])]
        chains.append((names[-1], []))
        self.assertEqual(Book("pass", chains).length(), 60)
        self.assertEqual(Book("pass", [("main", [])] + [(name, [PASS] * 6) for name in names]).length(), 0)


class TwoAtOnce(Refused):
    def test_two_chains_ahead_of_no_chain(self):
        self.assertEqual(self.refused(chains_of("main: nobody / a: / a:"), TwoChains).name, "a")
        self.assertEqual(self.refused(chains_of("main: / a: nobody / a:"), TwoChains).name, "a")

    def test_two_chains_ahead_of_ring(self):
        self.assertEqual(self.refused(chains_of("main: main / a: / a:"), TwoChains).name, "a")
        self.assertEqual(self.refused(chains_of("main: a / a: a / a:"), TwoChains).name, "a")

    def test_two_chains_ahead_of_too_long(self):
        self.assertEqual(self.refused([("main", [PASS] * 121), ("a", []), ("a", [])], TwoChains).name, "a")
        self.assertEqual(self.refused([("main", [PASS] * 121), ("main", [])], TwoChains).name, "main")

    def test_no_chain_ahead_of_ring(self):
        self.assertEqual(self.refused(chains_of("main: main nobody"), NoChain).name, "nobody")
        self.assertEqual(self.refused(chains_of("main: a / a: a / b: nobody"), NoChain).name, "nobody")

    def test_no_chain_ahead_of_too_long(self):
        self.assertEqual(self.refused([("main", [PASS] * 121 + calls("nobody"))], NoChain).name, "nobody")
        self.assertEqual(self.refused([("main", [PASS] * 121), ("a", calls("nobody"))], NoChain).name, "nobody")

    def test_ring_ahead_of_too_long(self):
        chains = [("main", [PASS] * 121), ("a", calls("b")), ("b", calls("a"))]
        self.is_ring(chains, self.refused(chains, Ring).names)
        chains = [("main", [PASS] * 121 + calls("main"))]
        self.assertEqual(self.refused(chains, Ring).names, ["main"])

    def test_all_at_once(self):
        chains = [("main", [PASS] * 121 + calls("a nobody")), ("a", calls("a")), ("a", [])]
        self.assertEqual(self.refused(chains, TwoChains).name, "a")
        self.assertEqual(self.refused(chains[:2], NoChain).name, "nobody")


class Copies(unittest.TestCase):
    def test_what_is_handed_in_is_not_changed(self):
        given = copy.deepcopy(EXAMPLE)
        book = Book("pass", given)
        book.told()
        book.chain("main")
        self.assertEqual(given, EXAMPLE)

    def test_what_is_refused_is_not_changed(self):
        for written in ("main: / a: / a:", "main: nobody", "main: a / a: main"):
            given = chains_of(written)
            with self.assertRaises(SieveError):
                Book("pass", given)
            self.assertEqual(given, chains_of(written))

    def test_the_lists_handed_in_are_emptied_behind(self):
        given = copy.deepcopy(EXAMPLE)
        book = Book("pass", given)
        for name, rules in given:
            rules.clear()
        given.clear()
        self.assert_example(book)

    def test_the_lists_told_are_emptied(self):
        book = Book("pass", EXAMPLE)
        told = book.told()
        for name, rules in told[1]:
            rules.clear()
        told[1].clear()
        book.chain_names().clear()
        for name in book.chain_names():
            book.chain(name).clear()
        self.assert_example(book)

    def assert_example(self, book):
        self.assertEqual(book.told(), ("pass", EXAMPLE))
        self.assertEqual(book.chain_names(), [name for name, rules in EXAMPLE])
        self.assertEqual(book.length(), 15)
        for name, rules in EXAMPLE:
            self.assertEqual([rule.told() for rule in book.chain(name)], rules)

    def test_one_list_for_several_chains(self):
        rules = [PASS, STOP]
        book = Book("pass", [("main", rules), ("a", rules), ("b", rules)])
        told = book.told()
        told[1][0][1].clear()
        self.assertEqual(told[1][1:], [("a", [PASS, STOP]), ("b", [PASS, STOP])])
        book.chain("main").clear()
        self.assertEqual(len(book.chain("a")), 2)
        self.assertEqual(rules, [PASS, STOP])

    def test_what_is_told_stays_what_is_asked_later(self):
        book = Book("pass", EXAMPLE)
        first = book.told()
        book.told()[1].clear()
        book.chain("main").clear()
        self.assertEqual(first, ("pass", EXAMPLE))

    def test_two_books_beside_each_other(self):
        given = copy.deepcopy(EXAMPLE)
        one = Book("pass", given)
        given[0][1].append(PASS)
        other = Book("stop", given + [("more", [])])
        self.assert_example(one)
        self.assertEqual(other.length(), 16)
        self.assertEqual(other.chain_names()[-1], "more")
        other.told()[1].clear()
        self.assert_example(one)
        self.assertEqual((one.default, other.default), ("pass", "stop"))

    def test_the_names_of_a_ring_are_the_askers_own(self):
        refusals = []
        for step in range(2):
            with self.assertRaises(Ring) as caught:
                Book("pass", chains_of("main: a / a: main"))
            refusals.append(caught.exception)
        refusals[0].names.clear()
        self.assertEqual(sorted(refusals[1].names), ["a", "main"])


class Arguments(unittest.TestCase):
    def test_names(self):
        expected = {
            Book: ["default", "chains"],
            Book.chain_names: ["self"],
            Book.chain: ["self", "name"],
            Book.length: ["self"],
            Book.told: ["self"],
        }
        for function, names in expected.items():
            self.assertEqual(list(inspect.signature(function).parameters), names)


if __name__ == "__main__":
    unittest.main()
