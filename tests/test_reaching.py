"""Points 26 to 29: rules reached or never, covers, rules needed, the shortened book; with points 2 and 3."""

import inspect
import unittest

from building import (EVERY, GRID, books_by_chance, box_with, common_plainly, lists_within, looked_plainly, parcel_with,
                      parcels_about, small_books_by_chance)
from sieve.books import Book
from sieve.boxes import count_of
from sieve.comparing import alike, parting
from sieve.errors import NoRule, Reached
from sieve.reaching import cover, needed, reached, shorter, without
from sieve.reading import path, word_of
from sieve.rows import unfolded

SIX = box_with(kind=6)
SEVEN = box_with(kind=7)
NOUGHT = parcel_with()
P6 = parcel_with(kind=6)
P7 = parcel_with(kind=7)

PASS = ("pass", EVERY)
STOP = ("stop", EVERY)
PASS6 = ("pass", SIX)
STOP7 = ("stop", SEVEN)


def call(name, box=EVERY):
    return ("call", box, name)


def book_of(*rules, default="stop"):
    return Book(default, [("main", list(rules))])


def rules_of(chains):
    """The name and index of each rule, in the order told."""
    return [(name, index) for name, rules in chains for index in range(len(rules))]


def reached_plainly(book):
    """What point 26 tells, by the tests' own looker."""
    rows = unfolded(book)
    told = looked_plainly(rows, book.default, EVERY)
    answers = []
    for name, index in rules_of(book.told()[1]):
        boxes = [box for box, way, word in told if [1 for row, fits in way if fits and rows[row][:2] == (name, index)]]
        answers.append((name, index, tuple(low for low, high in boxes[0]) if boxes else None))
    return answers


class ReachedRules(unittest.TestCase):
    def tells(self, chains, expected, default="stop"):
        book = Book(default, chains)
        told = reached(book)
        self.assertEqual(told, expected)
        for name, index, parcel in told:
            if parcel is not None:
                self.assertIn((name, index, True), path(book, parcel))
        self.assertEqual(book.told(), (default, chains))

    def test_no_rules(self):
        self.tells([("main", [])], [])
        self.tells([("main", []), ("a", [])], [])

    def test_rules_of_main(self):
        self.tells([("main", [PASS6, STOP7, PASS])],
                   [("main", 0, P6), ("main", 1, P7), ("main", 2, NOUGHT)])

    def test_the_first_boxs_corner_and_not_the_rules(self):
        self.tells([("main", [("stop", box_with(kind=(0, 9))), ("pass", box_with(kind=(5, 20)))])],
                   [("main", 0, NOUGHT), ("main", 1, parcel_with(kind=10))])

    def test_the_first_box_and_not_the_least_parcel(self):
        """What fits is told ahead of what is left, also where its numbers are greater."""
        self.tells([("main", [call("a", SEVEN), ("pass", box_with(turn=0))]), ("a", [])],
                   [("main", 0, P7), ("main", 1, P7)])
        self.tells([("main", [call("a", box_with(turn=3)), PASS]), ("a", [call("b", SIX)]), ("b", [])],
                   [("main", 0, parcel_with(turn=3, kind=6)), ("main", 1, parcel_with(turn=3, kind=6)),
                    ("a", 0, parcel_with(turn=3, kind=6))])

    def test_a_rule_behind_one_that_takes_all_parcels(self):
        self.tells([("main", [PASS, PASS6, STOP])], [("main", 0, NOUGHT), ("main", 1, None), ("main", 2, None)])
        self.tells([("main", [("back", EVERY), PASS6])], [("main", 0, NOUGHT), ("main", 1, None)])

    def test_a_rule_behind_two_that_take_all_its_parcels(self):
        self.tells([("main", [("stop", box_with(kind=(0, 9))), ("pass", box_with(kind=(10, 99))),
                              ("pass", box_with(kind=(5, 15)))])],
                   [("main", 0, NOUGHT), ("main", 1, parcel_with(kind=10)), ("main", 2, None)])
        self.tells([("main", [("stop", box_with(kind=(0, 9))), ("pass", box_with(kind=(11, 99))),
                              ("pass", box_with(kind=(5, 15)))])],
                   [("main", 0, NOUGHT), ("main", 1, parcel_with(kind=11)), ("main", 2, parcel_with(kind=10))])

    def test_looked_at_but_never_fit(self):
        self.tells([("main", [call("a", SIX)]), ("a", [STOP7, PASS6])],
                   [("main", 0, P6), ("a", 0, None), ("a", 1, P6)])

    def test_a_chain_that_nobody_calls(self):
        self.tells([("main", [PASS6]), ("a", [PASS, call("b")]), ("b", [STOP])],
                   [("main", 0, P6), ("a", 0, None), ("a", 1, None), ("b", 0, None)])

    def test_a_chain_called_by_a_rule_that_is_never_reached(self):
        self.tells([("main", [PASS6, call("a", SIX), STOP7]), ("a", [PASS, STOP7])],
                   [("main", 0, P6), ("main", 1, None), ("main", 2, P7), ("a", 0, None), ("a", 1, None)])

    def test_a_chain_called_more_than_once(self):
        """Only the second call brings the parcels that the chain's second rule fits."""
        self.tells([("main", [call("a", SIX), call("a", box_with(kind=(6, 7)))]), ("a", [PASS6, ("stop", SEVEN), PASS6])],
                   [("main", 0, P6), ("main", 1, P7), ("a", 0, P6), ("a", 1, P7), ("a", 2, None)])

    def test_chains_in_the_books_order(self):
        """Not in the order of the calls, and not by their names."""
        self.tells([("main", [call("a"), call("b")]), ("c", [PASS]), ("b", [call("c", SEVEN)]), ("a", [PASS6])],
                   [("main", 0, P6), ("main", 1, NOUGHT), ("c", 0, P7), ("b", 0, P7), ("a", 0, P6)])

    def test_back(self):
        self.tells([("main", [call("a"), PASS6]), ("a", [("back", SIX), ("stop", box_with(kind=(6, 7))), PASS6])],
                   [("main", 0, P6), ("main", 1, P6), ("a", 0, P6), ("a", 1, P7), ("a", 2, None)])

    def test_many_books(self):
        for default, chains in books_by_chance(26, 80):
            book = Book(default, chains)
            told = reached(book)
            self.assertEqual(told, reached_plainly(book))
            self.assertEqual([row[:2] for row in told], rules_of(chains))
            for name, index, parcel in told:
                if parcel is not None:
                    self.assertIn((name, index, True), path(book, parcel))
            never = [row[:2] for row in told if row[2] is None]
            for parcel in parcels_about(chains, 26, 30):
                self.assertFalse([step for step in path(book, parcel) if step[2] and step[:2] in never])

    def test_small_books_against_each_sort_of_parcel(self):
        seen = {True: 0, False: 0}
        for default, chains in small_books_by_chance(260, 400):
            book = Book(default, chains)
            steps = [step for parcel in GRID for step in path(book, parcel)]
            for name, index, parcel in reached(book):
                self.assertEqual(parcel is not None, (name, index, True) in steps)
                seen[parcel is not None] += 1
        self.assertGreater(min(seen.values()), 500)

    def test_the_list_is_the_askers_own(self):
        book = book_of(PASS6, STOP7)
        reached(book).clear()
        kept = reached(book)
        reached(book).append("x")
        self.assertEqual(kept, [("main", 0, P6), ("main", 1, P7)])
        self.assertEqual(reached(book), kept)

    def test_kinds(self):
        told = reached(Book("stop", [("main", [call("a", SIX)]), ("a", [PASS6, STOP7])]))
        self.assertIs(type(told), list)
        for row in told[:2]:
            self.assertEqual([type(part) for part in (row,) + row + row[2]], [tuple, str, int, tuple] + 6 * [int])
        self.assertEqual([type(part) for part in (told[2],) + told[2]], [tuple, str, int, type(None)])


class NoSuchRule(unittest.TestCase):
    """Of cover, without and needed alike."""

    BOOK = Book("stop", [("main", [PASS6, STOP7, PASS, STOP]), ("a", []), ("b", [PASS6])])

    def refuses(self, name, index, book=BOOK):
        for ask in (cover, without, needed):
            before = book.told()
            with self.assertRaises(NoRule):
                ask(book, name, index)
            self.assertEqual(book.told(), before)

    def test_a_name_that_no_chain_has(self):
        for name in ("c", "mai", "mainx", "Main", ""):
            for index in (0, 1, 9):
                self.refuses(name, index)

    def test_an_index_at_the_chains_end_and_behind_it(self):
        for index in (4, 5, 300, 10 ** 9):
            self.refuses("main", index)
        for index in (1, 2, 3):
            self.refuses("b", index)

    def test_an_index_below_nought(self):
        for index in (-1, -2, -4, -5):
            self.refuses("main", index)
        self.refuses("b", -1)

    def test_a_chain_without_rules(self):
        for index in (-1, 0, 1):
            self.refuses("a", index)
        self.refuses("main", 0, Book("pass", [("main", [])]))

    def test_the_last_rule_is_none_of_these(self):
        self.assertNotEqual(cover(self.BOOK, "main", 3), [])
        self.assertEqual(without(self.BOOK, "main", 3).length(), 3)
        self.assertIsNone(needed(self.BOOK, "main", 3))

    def test_arguments(self):
        for ask in (cover, without, needed):
            self.assertEqual(list(inspect.signature(ask).parameters), ["book", "name", "index"])
        for ask in (reached, shorter):
            self.assertEqual(list(inspect.signature(ask).parameters), ["book"])


class Cover(unittest.TestCase):
    def refuses(self, book, name, index, parcel):
        with self.assertRaises(Reached) as caught:
            cover(book, name, index)
        self.assertEqual(caught.exception.parcel, parcel)
        self.assertEqual([type(part) for part in (caught.exception.parcel,) + parcel], [tuple] + 6 * [int])

    def test_a_rule_in_main(self):
        book = book_of(("stop", box_with(kind=(0, 9))), ("pass", box_with(kind=(10, 99))), ("pass", box_with(kind=(5, 15))))
        self.assertEqual(cover(book, "main", 2), [
            (box_with(kind=(5, 9)), [(0, True)], "stop"),
            (box_with(kind=(10, 15)), [(0, False), (1, True)], "pass"),
        ])

    def test_a_rule_in_a_chain(self):
        book = Book("stop", [("main", [call("a", SIX), PASS]), ("a", [("back", box_with(turn=(0, 1))), STOP7])])
        self.assertEqual(cover(book, "a", 1), [(SEVEN, [(0, False), (3, True)], "pass")])

    def test_a_rule_in_a_chain_behind_one_that_ends_it(self):
        book = Book("pass", [("main", [call("a", box_with(kind=(0, 6)))]),
                             ("a", [("back", SIX), ("stop", box_with(turn=(1, 3))), ("pass", box_with(kind=6, turn=0))])])
        self.assertEqual(cover(book, "a", 2), [(box_with(kind=6, turn=0), [(0, True), (1, True)], "pass")])

    def test_a_chain_that_nobody_calls(self):
        book = Book("pass", [("main", [("stop", box_with(kind=(0, 6)))]), ("a", [("pass", box_with(kind=(6, 7)))])])
        self.assertEqual(cover(book, "a", 0), [(SIX, [(0, True)], "stop"), (SEVEN, [(0, False)], "pass")])
        book = Book("pass", [("main", []), ("a", [PASS6])])
        self.assertEqual(cover(book, "a", 0), [(SIX, [], "pass")])

    def test_a_chain_called_by_a_rule_that_is_never_reached(self):
        book = Book("stop", [("main", [PASS6, call("a", SIX)]), ("a", [PASS])])
        self.assertEqual(cover(book, "a", 0), [
            (SIX, [(0, True)], "pass"),
            (box_with(kind=(0, 5)), [(0, False), (1, False)], "stop"),
            (box_with(kind=(7, 255)), [(0, False), (1, False)], "stop"),
        ])

    def test_another_rule_of_the_same_box_is_reached(self):
        book = book_of(PASS6, ("stop", SIX))
        self.refuses(book, "main", 0, P6)
        self.assertEqual(cover(book, "main", 1), [(SIX, [(0, True)], "pass")])

    def test_reached_with_its_parcel(self):
        book = Book("stop", [("main", [("stop", box_with(kind=(0, 5))), call("a"), PASS]),
                             ("a", [("back", box_with(kind=(0, 9))), ("pass", box_with(turn=3))])])
        self.refuses(book, "main", 0, NOUGHT)
        self.refuses(book, "main", 1, P6)
        self.refuses(book, "main", 2, P6)
        self.refuses(book, "a", 0, P6)
        self.refuses(book, "a", 1, parcel_with(kind=10, turn=3))

    def test_many_books(self):
        seen = 0
        for number, (default, chains) in enumerate(books_by_chance(27, 60) + small_books_by_chance(270, 100)):
            book = Book(default, chains)
            rows = unfolded(book)
            for name, index, parcel in reached(book):
                if parcel is not None:
                    self.refuses(book, name, index, parcel)
                    continue
                box = dict(chains)[name][index][1]
                told = cover(book, name, index)
                seen += 1
                self.assertEqual(told, looked_plainly(rows, default, box))
                self.assertEqual(sum(count_of(piece) for piece, way, word in told), count_of(box))
                for piece, way, word in told:
                    self.assertEqual(common_plainly(piece, box), piece)
                    self.assertFalse([row for row, fits in way if fits and rows[row][:2] == (name, index)])
        self.assertGreater(seen, 200)

    def test_the_lists_are_the_askers_own(self):
        book = book_of(("stop", box_with(kind=(0, 9))), PASS, ("pass", box_with(kind=(5, 15))))
        told = cover(book, "main", 2)
        lists = lists_within(told)
        self.assertEqual(len({id(part) for part in lists}), len(lists))
        told[0][1].clear()
        self.assertEqual(told[1], (box_with(kind=(10, 15)), [(0, False), (1, True)], "pass"))
        told.clear()
        self.assertEqual(cover(book, "main", 2), [
            (box_with(kind=(5, 9)), [(0, True)], "stop"),
            (box_with(kind=(10, 15)), [(0, False), (1, True)], "pass"),
        ])

    def test_kinds(self):
        told = cover(book_of(PASS, PASS6), "main", 1)
        self.assertIs(type(told), list)
        for row in told:
            self.assertEqual([type(part) for part in (row,) + row], [tuple, tuple, list, str])
            self.assertEqual([type(part) for part in (row[1][0],) + row[1][0]], [tuple, int, bool])


class Without(unittest.TestCase):
    CHAINS = [("main", [PASS6, call("a"), STOP7]), ("b", [PASS]), ("a", [STOP7, PASS6, ("back", SIX), call("b", SIX)])]

    def leaves(self, name, index, chains):
        for default in ("pass", "stop"):
            book = Book(default, self.CHAINS)
            told = without(book, name, index)
            self.assertIsInstance(told, Book)
            self.assertEqual(told.told(), (default, chains))
            self.assertEqual(book.told(), (default, self.CHAINS))

    def test_in_main(self):
        behind = self.CHAINS[1:]
        self.leaves("main", 0, [("main", [call("a"), STOP7])] + behind)
        self.leaves("main", 1, [("main", [PASS6, STOP7])] + behind)
        self.leaves("main", 2, [("main", [PASS6, call("a")])] + behind)

    def test_in_a_chain(self):
        ahead = self.CHAINS[:2]
        self.leaves("a", 0, ahead + [("a", [PASS6, ("back", SIX), call("b", SIX)])])
        self.leaves("a", 1, ahead + [("a", [STOP7, ("back", SIX), call("b", SIX)])])
        self.leaves("a", 2, ahead + [("a", [STOP7, PASS6, call("b", SIX)])])
        self.leaves("a", 3, ahead + [("a", [STOP7, PASS6, ("back", SIX)])])

    def test_the_only_rule(self):
        self.leaves("b", 0, [self.CHAINS[0], ("b", []), self.CHAINS[2]])
        self.assertEqual(without(book_of(PASS6), "main", 0).told(), ("stop", [("main", [])]))

    def test_only_one_of_equal_rules(self):
        self.assertEqual(without(book_of(PASS6, PASS6, STOP7, PASS6), "main", 1).told(),
                         ("stop", [("main", [PASS6, STOP7, PASS6])]))

    def test_the_same_index_of_other_chains_stays(self):
        book = Book("stop", [("main", [PASS6]), ("a", [PASS6])])
        self.assertEqual(without(book, "a", 0).told(), ("stop", [("main", [PASS6]), ("a", [])]))
        self.assertEqual(without(book, "main", 0).told(), ("stop", [("main", []), ("a", [PASS6])]))

    def test_the_book_is_a_whole_one(self):
        book = Book("stop", [("main", [call("a"), call("a", SIX)]), ("a", [PASS6, STOP7])])
        told = without(book, "a", 0)
        self.assertEqual((book.length(), told.length(), without(book, "main", 1).length()), (6, 4, 3))
        self.assertEqual((word_of(book, P6), word_of(told, P6)), ("pass", "stop"))
        told.told()[1].clear()
        told.chain("a").clear()
        self.assertEqual(told.told(), ("stop", [("main", [call("a"), call("a", SIX)]), ("a", [STOP7])]))


class Needed(unittest.TestCase):
    def test_the_parting(self):
        book = book_of(("pass", box_with(kind=(6, 17))), ("stop", box_with(kind=(10, 99))), PASS)
        self.assertEqual(needed(book, "main", 0), parcel_with(kind=10))
        self.assertEqual(needed(book, "main", 1), parcel_with(kind=18))
        self.assertEqual(needed(book, "main", 2), NOUGHT)

    def test_the_books_own_boxes_come_first(self):
        """The other way round another parcel would be told."""
        book = Book("stop", [("main", [call("a"), call("b", box_with(turn=3))]),
                             ("a", [("back", box_with(turn=3, kind=(10, 99))), ("pass", box_with(kind=(10, 99))),
                                    ("pass", box_with(turn=3))]),
                             ("b", [])])
        self.assertEqual(needed(book, "main", 0), parcel_with(kind=10))
        self.assertEqual(parting(without(book, "main", 0), book), parcel_with(turn=3))

    def test_in_a_chain(self):
        book = Book("stop", [("main", [call("a", SIX), call("a", SEVEN)]), ("a", [("back", SIX), PASS, STOP])])
        self.assertEqual(needed(book, "a", 0), P6)
        self.assertEqual(needed(book, "a", 1), P7)
        self.assertIsNone(needed(book, "a", 2))

    def test_reached_and_yet_not_needed(self):
        book = book_of(STOP7, PASS6)
        self.assertEqual(reached(book)[0], ("main", 0, P7))
        self.assertIsNone(needed(book, "main", 0))
        book = Book("stop", [("main", [call("a", SIX), PASS6]), ("a", [("back", EVERY)])])
        for name, index in (("main", 0), ("a", 0)):
            self.assertIsNone(needed(book, name, index))

    def test_never_reached(self):
        book = Book("stop", [("main", [PASS, PASS6]), ("a", [STOP])])
        self.assertIsNone(needed(book, "main", 1))
        self.assertIsNone(needed(book, "a", 0))

    def test_many_books(self):
        seen = {True: 0, False: 0}
        for default, chains in small_books_by_chance(28, 150) + books_by_chance(28, 15):
            book = Book(default, chains)
            for name, index in rules_of(chains):
                rest = without(book, name, index)
                expected = [(key, [rule for place, rule in enumerate(rules) if (key, place) != (name, index)])
                            for key, rules in chains]
                self.assertEqual(rest.told(), (default, expected))
                parcel = needed(book, name, index)
                self.assertEqual(parcel, parting(book, rest))
                if parcel is not None:
                    self.assertNotEqual(word_of(book, parcel), word_of(rest, parcel))
                    self.assertEqual([type(part) for part in (parcel,) + parcel], [tuple] + 6 * [int])
                else:
                    self.assertEqual([word_of(book, one) for one in GRID], [word_of(rest, one) for one in GRID])
                seen[parcel is None] += 1
            self.assertEqual(book.told(), (default, chains))
        self.assertGreater(min(seen.values()), 100)


class Shorter(unittest.TestCase):
    def leaves(self, chains, expected):
        for default in ("pass", "stop"):
            book = Book(default, chains)
            told = shorter(book)
            self.assertIsInstance(told, Book)
            self.assertEqual(told.told(), (default, expected))
            self.assertEqual(book.told(), (default, chains))
            self.assertIs(alike(book, told), True)
            self.assertEqual(shorter(told).told(), (default, expected))

    def test_nothing_to_leave_out(self):
        self.leaves([("main", [PASS6, STOP7])], [("main", [PASS6, STOP7])])
        self.leaves([("main", [STOP7, PASS6, call("a"), STOP]), ("a", [("back", box_with(turn=1))])],
                    [("main", [STOP7, PASS6, call("a"), STOP]), ("a", [("back", box_with(turn=1))])])

    def test_rules_that_are_never_reached(self):
        self.leaves([("main", [PASS6, ("stop", SIX), STOP7, PASS, STOP, PASS6])], [("main", [PASS6, STOP7, PASS])])

    def test_rules_that_are_reached_but_not_needed_stay(self):
        self.leaves([("main", [STOP7, PASS6, STOP])], [("main", [STOP7, PASS6, STOP])])
        self.leaves([("main", [PASS, STOP7])], [("main", [PASS])])

    def test_main_without_rules_stays(self):
        self.leaves([("main", [])], [("main", [])])
        self.leaves([("main", []), ("a", [PASS])], [("main", [])])

    def test_chains_that_no_rule_left_calls(self):
        self.leaves([("main", [PASS6]), ("a", [call("b")]), ("b", [STOP])], [("main", [PASS6])])
        self.leaves([("main", [PASS6, call("a", SIX), STOP7]), ("a", [call("b")]), ("b", [STOP])],
                    [("main", [PASS6, STOP7])])
        self.leaves([("main", [call("a")]), ("b", [STOP]), ("a", [PASS, call("b")])],
                    [("main", [call("a")]), ("a", [PASS])])

    def test_a_chain_that_is_called_and_has_no_rule_left(self):
        self.leaves([("main", [call("a", SIX), PASS]), ("a", [STOP7, call("b", SEVEN)]), ("b", [PASS])],
                    [("main", [call("a", SIX), PASS]), ("a", [])])
        self.leaves([("main", [call("a")]), ("a", [])], [("main", [call("a")]), ("a", [])])

    def test_a_chain_called_by_one_rule_that_is_left_and_one_that_is_not(self):
        self.leaves([("main", [call("a", SIX), PASS, call("a", SEVEN)]), ("a", [PASS6, STOP7])],
                    [("main", [call("a", SIX), PASS]), ("a", [PASS6])])

    def test_the_order_of_rules_and_chains(self):
        self.leaves([("main", [call("c"), PASS6, call("a")]), ("d", [PASS]), ("a", [("back", SIX), STOP]),
                     ("b", [STOP7, PASS6]), ("c", [("back", SEVEN), call("b", box_with(kind=(6, 7)))])],
                    [("main", [call("c"), call("a")]), ("a", [STOP]), ("b", [PASS6]),
                     ("c", [("back", SEVEN), call("b", box_with(kind=(6, 7)))])])

    def test_many_books(self):
        smaller = 0
        for default, chains in books_by_chance(29, 80) + small_books_by_chance(290, 200):
            book = Book(default, chains)
            told = shorter(book)
            kept = [(name, index) for name, index, parcel in reached(book) if parcel is not None]
            rules = [(name, [rule for index, rule in enumerate(rules) if (name, index) in kept])
                     for name, rules in chains]
            called = [rule[2] for name, left in rules for rule in left if rule[0] == "call"]
            self.assertEqual(told.told(), (default, [one for one in rules if one[0] in ["main"] + called]))
            self.assertIs(alike(book, told), True)
            self.assertEqual(shorter(told).told(), told.told())
            self.assertNotIn(None, [parcel for name, index, parcel in reached(told)])
            for parcel in parcels_about(chains, 29, 10):
                self.assertEqual(word_of(book, parcel), word_of(told, parcel))
            smaller += told.told() != book.told()
        self.assertGreater(smaller, 100)

    def test_the_book_is_the_askers_own(self):
        book = Book("stop", [("main", [call("a"), PASS6]), ("a", [STOP7])])
        told = shorter(book)
        told.told()[1].clear()
        told.chain("a").clear()
        self.assertEqual(told.told(), book.told())


if __name__ == "__main__":
    unittest.main()
