"""Points 21 and 22: a book unfolded as rows, and a parcel's way along them."""

import copy
import inspect
import unittest

from building import EVERY, PLACES, WHOLE, books_by_chance, box_with, parcel_with
from sieve.books import Book
from sieve.rows import unfolded, walk

SIX = box_with(kind=6)
SEVEN = box_with(kind=7)
LOW = box_with(receiver_door=(0, 1023))
P6 = parcel_with(kind=6)
P7 = parcel_with(kind=7)
P0 = parcel_with()

PASS = ("pass", SIX)
STOP = ("stop", SEVEN)
BACK = ("back", LOW)


def call(name, box=EVERY):
    return ("call", box, name)


def rows_of(chains):
    return unfolded(Book("pass", chains))


class Unfolded(unittest.TestCase):
    def test_no_rule_at_all(self):
        self.assertEqual(rows_of([("main", [])]), [])

    def test_words(self):
        self.assertEqual(rows_of([("main", [PASS, STOP])]),
                         [("main", 0, SIX, "pass", 1), ("main", 1, SEVEN, "stop", 2)])

    def test_back_in_main(self):
        self.assertEqual(rows_of([("main", [BACK])]), [("main", 0, LOW, 1, 1)])
        self.assertEqual(rows_of([("main", [BACK, PASS, BACK, STOP])]),
                         [("main", 0, LOW, 4, 1), ("main", 1, SIX, "pass", 2), ("main", 2, LOW, 4, 3),
                          ("main", 3, SEVEN, "stop", 4)])

    def test_a_call(self):
        chains = [("main", [STOP, call("a", LOW), PASS]), ("a", [PASS, BACK, STOP])]
        self.assertEqual(rows_of(chains), [
            ("main", 0, SEVEN, "stop", 1),
            ("main", 1, LOW, 2, 5),
            ("a", 0, SIX, "pass", 3),
            ("a", 1, LOW, 5, 4),
            ("a", 2, SEVEN, "stop", 5),
            ("main", 2, SIX, "pass", 6),
        ])

    def test_a_call_as_the_last_rule(self):
        chains = [("main", [call("a", SIX)]), ("a", [BACK, STOP])]
        self.assertEqual(rows_of(chains), [("main", 0, SIX, 1, 3), ("a", 0, LOW, 3, 2), ("a", 1, SEVEN, "stop", 3)])

    def test_back_at_the_end_of_a_chain(self):
        chains = [("main", [call("a"), PASS]), ("a", [STOP, BACK])]
        self.assertEqual(rows_of(chains), [
            ("main", 0, EVERY, 1, 3),
            ("a", 0, SEVEN, "stop", 2),
            ("a", 1, LOW, 3, 3),
            ("main", 1, SIX, "pass", 4),
        ])

    def test_a_call_of_a_chain_without_rules(self):
        chains = [("main", [call("a"), call("a", SIX)]), ("a", [])]
        self.assertEqual(rows_of(chains), [("main", 0, EVERY, 1, 1), ("main", 1, SIX, 2, 2)])

    def test_calls_within_calls(self):
        chains = [
            ("main", [call("a", SIX), BACK]),
            ("b", [BACK, call("c"), STOP]),
            ("c", [BACK]),
            ("a", [PASS, call("b", SEVEN), BACK]),
        ]
        self.assertEqual(rows_of(chains), [
            ("main", 0, SIX, 1, 8),
            ("a", 0, SIX, "pass", 2),
            ("a", 1, SEVEN, 3, 7),
            ("b", 0, LOW, 7, 4),
            ("b", 1, EVERY, 5, 6),
            ("c", 0, LOW, 6, 6),
            ("b", 2, SEVEN, "stop", 7),
            ("a", 2, LOW, 8, 8),
            ("main", 1, LOW, 9, 9),
        ])

    def test_a_chain_called_more_than_once(self):
        chains = [("main", [call("a", SIX), call("a", SEVEN), call("b")]), ("a", [BACK, PASS]), ("b", [call("a"), BACK])]
        self.assertEqual(rows_of(chains), [
            ("main", 0, SIX, 1, 3),
            ("a", 0, LOW, 3, 2),
            ("a", 1, SIX, "pass", 3),
            ("main", 1, SEVEN, 4, 6),
            ("a", 0, LOW, 6, 5),
            ("a", 1, SIX, "pass", 6),
            ("main", 2, EVERY, 7, 11),
            ("b", 0, EVERY, 8, 10),
            ("a", 0, LOW, 10, 9),
            ("a", 1, SIX, "pass", 10),
            ("b", 1, LOW, 11, 11),
        ])

    def test_a_chain_that_nobody_calls(self):
        chains = [("main", [PASS]), ("a", [STOP, call("b")]), ("b", [BACK])]
        self.assertEqual(rows_of(chains), [("main", 0, SIX, "pass", 1)])

    def test_calls_as_deep_as_they_may_be(self):
        names = ["main"] + [letter * count for letter in "abc" for count in range(1, 13)]
        chains = [(name, [call(called), BACK]) for name, called in zip(names, names[1:])] + [(names[-1], [PASS])]
        rows = rows_of(chains)
        total = 2 * len(names) - 1
        self.assertEqual(len(rows), total)
        for depth, name in enumerate(names[:-1]):
            self.assertEqual(rows[depth], (name, 0, EVERY, depth + 1, total - 1 - depth))
            self.assertEqual(rows[total - 1 - depth], (name, 1, LOW, total - depth, total - depth))

    def test_as_many_rows_as_the_books_length(self):
        for default, chains in books_by_chance(21, 300):
            book = Book(default, chains)
            rows = unfolded(book)
            self.assertEqual(len(rows), book.length())
            self.assertEqual(book.told(), (default, chains))

    def test_each_row_is_its_rules(self):
        for default, chains in books_by_chance(22, 300):
            rules = dict(chains)
            rows = unfolded(Book(default, chains))
            for number, (name, index, box, yes, no) in enumerate(rows):
                rule = rules[name][index]
                self.assertEqual(box, rule[1])
                self.assertTrue(number < no <= len(rows))
                if rule[0] in ("pass", "stop"):
                    self.assertEqual((yes, no), (rule[0], number + 1))
                else:
                    self.assertTrue(number < yes <= len(rows))
                if rule[0] == "back":
                    self.assertEqual(no, number + 1)
                if rule[0] == "call":
                    self.assertEqual(yes, number + 1)

    def test_a_book_of_the_greatest_length(self):
        chains = [("main", [call("a")] * 40), ("a", [BACK, PASS])]
        rows = rows_of(chains)
        self.assertEqual(len(rows), 120)
        self.assertEqual(rows[117:], [("main", 39, EVERY, 118, 120), ("a", 0, LOW, 120, 119), ("a", 1, SIX, "pass", 120)])

    def test_the_list_is_the_askers_own(self):
        book = Book("pass", [("main", [call("a"), PASS]), ("a", [BACK])])
        first = unfolded(book)
        whole = list(first)
        first.clear()
        self.assertEqual(unfolded(book), whole)
        kept = unfolded(book)
        unfolded(book).append("x")
        self.assertEqual(kept, whole)

    def test_kinds(self):
        rows = rows_of([("main", [call("a"), PASS, BACK]), ("a", [BACK])])
        self.assertIs(type(rows), list)
        for row in rows:
            self.assertIs(type(row), tuple)
            self.assertEqual([type(part) for part in row[:3]], [str, int, tuple])
            self.assertIn(type(row[3]), (str, int))
            self.assertIs(type(row[4]), int)

    def test_arguments(self):
        self.assertEqual(list(inspect.signature(unfolded).parameters), ["book"])
        self.assertEqual(list(inspect.signature(walk).parameters), ["rows", "default", "parcel"])


class Walk(unittest.TestCase):
    ROWS = [
        ("main", 0, SEVEN, "stop", 1),
        ("main", 1, LOW, 2, 5),
        ("a", 0, SIX, "pass", 3),
        ("a", 1, box_with(turn=1), 5, 4),
        ("a", 2, box_with(turn=2), "stop", 5),
        ("main", 2, box_with(turn=3), "pass", 6),
        ("main", 3, box_with(sender=9), 7, 7),
    ]

    def goes(self, parcel, word, way, rows=None):
        """Looks at the word with both defaults; None for a word that is the default."""
        rows = self.ROWS if rows is None else rows
        before = copy.deepcopy(rows)
        for default in ("pass", "stop"):
            self.assertEqual(walk(rows, default, parcel), (way, word or default))
            self.assertEqual(rows, before)

    def test_no_rows(self):
        self.goes(P6, None, [], rows=[])

    def test_a_word_at_once(self):
        self.goes(P7, "stop", [(0, True)])

    def test_a_word_within_a_call(self):
        self.goes(P6, "pass", [(0, False), (1, True), (2, True)])
        self.goes(parcel_with(turn=2), "stop", [(0, False), (1, True), (2, False), (3, False), (4, True)])

    def test_back(self):
        self.goes(parcel_with(turn=1), None,
                  [(0, False), (1, True), (2, False), (3, True), (5, False), (6, False)])

    def test_a_call_that_does_not_fit(self):
        self.goes(parcel_with(turn=3, receiver_door=1024), "pass", [(0, False), (1, False), (5, True)])
        self.goes(parcel_with(kind=6, receiver_door=1024), None, [(0, False), (1, False), (5, False), (6, False)])

    def test_the_default_behind_the_last_row(self):
        self.goes(P0, None, [(0, False), (1, True), (2, False), (3, False), (4, False), (5, False), (6, False)])
        self.goes(parcel_with(sender=9), None,
                  [(0, False), (1, True), (2, False), (3, False), (4, False), (5, False), (6, True)])

    def test_the_ends_of_each_stretch_and_one_off(self):
        for name in PLACES:
            greatest = WHOLE[name][1]
            for low, high in ((1, 1), (1, 2), (0, 1), (2, greatest), (0, greatest - 1), (greatest, greatest)):
                rows = [("main", 0, box_with(**{name: (low, high)}), "pass", 1)]
                for number in {0, low - 1, low, high, high + 1, greatest}:
                    if 0 <= number <= greatest:
                        fits = low <= number <= high
                        parcel = parcel_with(**{name: number})
                        self.assertEqual(walk(rows, "stop", parcel), ([(0, fits)], "pass" if fits else "stop"))

    def test_along_a_books_rows(self):
        book = Book("stop", [("main", [call("a", SIX), STOP, call("a")]), ("a", [BACK, PASS])])
        rows = unfolded(book)
        self.assertEqual(walk(rows, book.default, P6),
                         ([(0, True), (1, True), (3, False), (4, True), (5, True)], "stop"))
        self.assertEqual(walk(rows, book.default, parcel_with(kind=6, receiver_door=1024)),
                         ([(0, True), (1, False), (2, True)], "pass"))
        self.assertEqual(walk(rows, book.default, P7), ([(0, False), (3, True)], "stop"))

    def test_the_list_is_the_askers_own(self):
        way = walk(self.ROWS, "pass", P6)[0]
        way.clear()
        self.assertEqual(walk(self.ROWS, "pass", P6)[0], [(0, False), (1, True), (2, True)])
        kept = walk(self.ROWS, "pass", P6)[0]
        walk(self.ROWS, "pass", P0)
        self.assertEqual(kept, [(0, False), (1, True), (2, True)])
        empty = walk([], "pass", P6)[0]
        empty.append("x")
        self.assertEqual(walk([], "pass", P6), ([], "pass"))

    def test_kinds(self):
        for rows in (self.ROWS, []):
            told = walk(rows, "stop", P0)
            self.assertEqual([type(told), type(told[0]), type(told[1])], [tuple, list, str])
            for step in told[0]:
                self.assertEqual([type(step), type(step[0]), type(step[1])], [tuple, int, bool])


if __name__ == "__main__":
    unittest.main()
