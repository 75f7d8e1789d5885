"""Points 24 and 25: two books looked at jointly, alike or parted; with points 2 and 3 as far as these go."""

import inspect
import itertools
import unittest

from building import (EVERY, GRID, books_by_chance, box_with, common_plainly, lists_within, looked_plainly, parcel_with,
                      parcels_about, small_books_by_chance)
from sieve.books import Book
from sieve.boxes import count_of
from sieve.comparing import alike, joint, parting
from sieve.reading import word_of
from sieve.rows import unfolded

SIX = box_with(kind=6)
NOUGHT = parcel_with()


def book_of(default, *rules):
    return Book(default, [("main", list(rules))])


def joint_plainly(one, other):
    """What point 24 tells, by the tests' own looker."""
    return [(piece, way, word, other_way, other_word)
            for box, way, word in looked_plainly(unfolded(one), one.default, EVERY)
            for piece, other_way, other_word in looked_plainly(unfolded(other), other.default, box)]


class Joint(unittest.TestCase):
    def test_books_without_rules(self):
        self.assertEqual(joint(book_of("pass"), book_of("pass")), [(EVERY, [], "pass", [], "pass")])
        self.assertEqual(joint(book_of("pass"), book_of("stop")), [(EVERY, [], "pass", [], "stop")])
        self.assertEqual(joint(book_of("stop"), book_of("pass")), [(EVERY, [], "stop", [], "pass")])

    def test_the_first_ones_boxes_along_the_rows_of_the_other(self):
        one = book_of("stop", ("pass", box_with(kind=(0, 99))))
        other = book_of("pass", ("stop", box_with(kind=(50, 149))))
        self.assertEqual(joint(one, other), [
            (box_with(kind=(50, 99)), [(0, True)], "pass", [(0, True)], "stop"),
            (box_with(kind=(0, 49)), [(0, True)], "pass", [(0, False)], "pass"),
            (box_with(kind=(100, 149)), [(0, False)], "stop", [(0, True)], "stop"),
            (box_with(kind=(150, 255)), [(0, False)], "stop", [(0, False)], "pass"),
        ])
        self.assertEqual(joint(other, one), [
            (box_with(kind=(50, 99)), [(0, True)], "stop", [(0, True)], "pass"),
            (box_with(kind=(100, 149)), [(0, True)], "stop", [(0, False)], "stop"),
            (box_with(kind=(0, 49)), [(0, False)], "pass", [(0, True)], "pass"),
            (box_with(kind=(150, 255)), [(0, False)], "pass", [(0, False)], "stop"),
        ])

    def test_a_book_without_rules_beside_another(self):
        one = book_of("stop")
        other = book_of("pass", ("stop", SIX), ("back", box_with(turn=3)))
        self.assertEqual(joint(one, other), [
            (SIX, [], "stop", [(0, True)], "stop"),
            (box_with(kind=(0, 5), turn=3), [], "stop", [(0, False), (1, True)], "pass"),
            (box_with(kind=(0, 5), turn=(0, 2)), [], "stop", [(0, False), (1, False)], "pass"),
            (box_with(kind=(7, 255), turn=3), [], "stop", [(0, False), (1, True)], "pass"),
            (box_with(kind=(7, 255), turn=(0, 2)), [], "stop", [(0, False), (1, False)], "pass"),
        ])
        self.assertEqual(joint(other, one), [
            (SIX, [(0, True)], "stop", [], "stop"),
            (box_with(kind=(0, 5), turn=3), [(0, False), (1, True)], "pass", [], "stop"),
            (box_with(kind=(0, 5), turn=(0, 2)), [(0, False), (1, False)], "pass", [], "stop"),
            (box_with(kind=(7, 255), turn=3), [(0, False), (1, True)], "pass", [], "stop"),
            (box_with(kind=(7, 255), turn=(0, 2)), [(0, False), (1, False)], "pass", [], "stop"),
        ])

    def test_calls_on_both_sides(self):
        one = Book("stop", [("main", [("call", SIX, "a"), ("pass", box_with(turn=0))]), ("a", [("back", EVERY)])])
        other = Book("pass", [("main", [("call", EVERY, "b")]), ("b", [("stop", box_with(turn=(1, 3)))])])
        self.assertEqual(joint(one, other), [
            (box_with(kind=6, turn=0), [(0, True), (1, True), (2, True)], "pass", [(0, True), (1, False)], "pass"),
            (box_with(kind=6, turn=(1, 3)), [(0, True), (1, True), (2, False)], "stop", [(0, True), (1, True)], "stop"),
            (box_with(kind=(0, 5), turn=0), [(0, False), (2, True)], "pass", [(0, True), (1, False)], "pass"),
            (box_with(kind=(0, 5), turn=(1, 3)), [(0, False), (2, False)], "stop", [(0, True), (1, True)], "stop"),
            (box_with(kind=(7, 255), turn=0), [(0, False), (2, True)], "pass", [(0, True), (1, False)], "pass"),
            (box_with(kind=(7, 255), turn=(1, 3)), [(0, False), (2, False)], "stop", [(0, True), (1, True)], "stop"),
        ])

    def test_a_book_and_itself(self):
        for default, chains in books_by_chance(240, 40):
            book = Book(default, chains)
            self.assertEqual(joint(book, book), [
                (box, way, word, way, word) for box, way, word in looked_plainly(unfolded(book), default, EVERY)])

    def test_many_books(self):
        books = [Book(default, chains) for default, chains in books_by_chance(241, 60)]
        for one, other in zip(books, books[1:]):
            told = joint(one, other)
            self.assertEqual(told, joint_plainly(one, other))
            self.assertEqual(sum(count_of(row[0]) for row in told), count_of(EVERY))
            for place, row in enumerate(told[:40]):
                self.assertFalse([before for before in told[:place] if common_plainly(row[0], before[0])])

    def test_no_list_stands_twice(self):
        one = book_of("stop", ("pass", SIX))
        other = book_of("pass", ("stop", box_with(turn=(1, 2))), ("stop", box_with(sender=9)))
        for told in (joint(one, other), joint(one, one), joint(book_of("pass"), other)):
            lists = lists_within(told)
            self.assertEqual(len(lists), 1 + 2 * len(told))
            self.assertEqual(len({id(part) for part in lists}), len(lists))

    def test_a_way_that_is_changed_leaves_all_others(self):
        one = book_of("stop", ("pass", SIX))
        other = book_of("pass", ("stop", box_with(turn=(1, 2))))
        whole = joint_plainly(one, other)
        for place, side in itertools.product(range(len(whole)), (1, 3)):
            told = joint(one, other)
            told[place][side].clear()
            self.assertEqual(told[place][4 - side], whole[place][4 - side])
            self.assertEqual(told[:place] + told[place + 1:], whole[:place] + whole[place + 1:])
            self.assertEqual(joint(one, other), whole)

    def test_the_books_stay_as_they_were(self):
        for default, chains in books_by_chance(242, 20):
            one = Book(default, chains)
            other = book_of("pass", ("stop", SIX))
            before = (one.told(), other.told())
            for compare in (joint, alike, parting):
                compare(one, other)
                self.assertEqual((one.told(), other.told()), before)

    def test_kinds(self):
        told = joint(book_of("stop", ("pass", SIX)), book_of("pass", ("stop", box_with(turn=1))))
        self.assertIs(type(told), list)
        for row in told:
            self.assertEqual([type(part) for part in (row,) + row], [tuple, tuple, list, str, list, str])
            for number, fits in row[1] + row[3]:
                self.assertEqual([type(number), type(fits)], [int, bool])

    def test_arguments(self):
        for compare in (joint, alike, parting):
            self.assertEqual(list(inspect.signature(compare).parameters), ["one", "other"])


class Parting(unittest.TestCase):
    def are_alike(self, one, other):
        for pair in ((one, other), (other, one)):
            self.assertIs(alike(*pair), True)
            self.assertIsNone(parting(*pair))

    def part(self, one, other, parcel):
        self.assertIs(alike(one, other), False)
        told = parting(one, other)
        self.assertEqual(told, parcel)
        self.assertEqual([type(part) for part in (told,) + told], [tuple] + 6 * [int])
        self.assertNotEqual(word_of(one, told), word_of(other, told))

    def test_a_book_and_itself(self):
        for default, chains in books_by_chance(250, 40):
            book = Book(default, chains)
            self.are_alike(book, book)
            self.are_alike(book, Book(default, chains))

    def test_unlike_defaults(self):
        self.part(book_of("pass"), book_of("stop"), NOUGHT)
        self.part(book_of("stop"), book_of("pass"), NOUGHT)

    def test_unlike_defaults_that_no_parcel_comes_to(self):
        self.are_alike(book_of("pass", ("stop", EVERY)), book_of("stop", ("stop", EVERY)))
        self.are_alike(book_of("pass", ("stop", EVERY)), book_of("stop"))

    def test_books_that_part_in_one_parcel_alone(self):
        for parcel in (NOUGHT, (3, 255, 4294967295, 65535, 4294967295, 65535), (1, 6, 2886729729, 1024, 134744072, 53)):
            alone = tuple((number, number) for number in parcel)
            self.part(book_of("stop", ("pass", alone)), book_of("stop"), parcel)
            self.part(book_of("stop"), book_of("stop", ("pass", alone)), parcel)

    def test_books_that_part_at_an_end_of_a_stretch(self):
        one = book_of("stop", ("pass", box_with(kind=(6, 17))))
        self.part(one, book_of("stop", ("pass", box_with(kind=(6, 16)))), parcel_with(kind=17))
        self.part(one, book_of("stop", ("pass", box_with(kind=(7, 17)))), parcel_with(kind=6))
        self.part(one, book_of("stop", ("pass", box_with(kind=(5, 17)))), parcel_with(kind=5))
        self.part(one, book_of("stop", ("pass", box_with(kind=(6, 18)))), parcel_with(kind=18))

    def test_other_rules_that_mean_the_same(self):
        halves = (("pass", box_with(kind=(10, 17))), ("pass", box_with(kind=(6, 9))))
        self.are_alike(book_of("stop", ("pass", box_with(kind=(6, 17)))), book_of("stop", *halves))
        self.are_alike(book_of("stop", ("pass", box_with(kind=(6, 17)))),
                       book_of("pass", ("stop", box_with(kind=(0, 5))), ("stop", box_with(kind=(18, 255)))))
        self.are_alike(book_of("stop", ("stop", SIX), ("pass", box_with(kind=(0, 9)))),
                       book_of("stop", ("pass", box_with(kind=(0, 5))), ("pass", box_with(kind=(7, 9)))))

    def test_other_chains_that_mean_the_same(self):
        flat = book_of("stop", ("pass", box_with(kind=6, turn=1)))
        self.are_alike(flat, Book("stop", [("main", [("call", SIX, "a")]), ("a", [("pass", box_with(turn=1))])]))
        self.are_alike(flat, Book("stop", [("main", [("call", box_with(turn=1), "b")]), ("a", [("pass", EVERY)]),
                                           ("b", [("call", SIX, "a"), ("stop", EVERY)])]))
        self.are_alike(flat, Book("pass", [("main", [("call", EVERY, "a"), ("stop", EVERY)]),
                                           ("a", [("back", box_with(kind=(0, 5))), ("back", box_with(kind=(7, 255))),
                                                  ("pass", box_with(turn=1))])]))

    def test_the_order_of_rules_matters_where_they_meet(self):
        one = book_of("stop", ("pass", box_with(kind=(0, 9))), ("stop", box_with(kind=(5, 20))))
        other = book_of("stop", ("stop", box_with(kind=(5, 20))), ("pass", box_with(kind=(0, 9))))
        self.part(one, other, parcel_with(kind=5))

    def test_the_first_box_and_not_the_least_parcel(self):
        one = book_of("stop", ("pass", box_with(kind=200)), ("pass", box_with(kind=5)))
        self.part(one, book_of("stop"), parcel_with(kind=200))
        self.part(book_of("stop"), one, parcel_with(kind=200))
        other = book_of("stop", ("pass", box_with(kind=200)))
        self.part(one, other, parcel_with(kind=5))

    def test_the_first_box_is_that_of_the_first_book(self):
        one = book_of("stop", ("pass", box_with(kind=(10, 99))))
        other = book_of("stop", ("pass", box_with(kind=(50, 149))))
        self.part(one, other, parcel_with(kind=10))
        self.part(other, one, parcel_with(kind=100))

    def test_the_corner_of_the_box(self):
        one = book_of("stop", ("pass", ((1, 2), (6, 17), (10, 20), (30, 40), (50, 60), (70, 80))))
        self.part(one, book_of("stop"), (1, 6, 10, 30, 50, 70))
        self.part(one, book_of("pass"), NOUGHT)

    def test_small_books_against_each_sort_of_parcel(self):
        books = [Book(default, chains) for default, chains in small_books_by_chance(25, 160)]
        words = [[word_of(book, parcel) for parcel in GRID] for book in books]
        seen = {True: 0, False: 0}
        for one, other in itertools.combinations(range(len(books)), 2):
            told = parting(books[one], books[other])
            same = words[one] == words[other]
            self.assertIs(alike(books[one], books[other]), same)
            self.assertEqual(told is None, same)
            if told is not None:
                self.assertNotEqual(word_of(books[one], told), word_of(books[other], told))
            seen[same] += 1
        self.assertGreater(min(seen.values()), 1000)

    def test_many_books(self):
        books = [(Book(default, chains), chains) for default, chains in books_by_chance(251, 80)]
        for number, ((one, chains), (other, others)) in enumerate(zip(books, books[1:])):
            unlike = [row[0] for row in joint_plainly(one, other) if row[2] != row[4]]
            corner = tuple(low for low, high in unlike[0]) if unlike else None
            self.assertEqual(parting(one, other), corner)
            self.assertIs(alike(one, other), unlike == [])
            if unlike:
                self.assertNotEqual(word_of(one, corner), word_of(other, corner))
            else:
                for parcel in parcels_about(chains + others, number, 40):
                    self.assertEqual(word_of(one, parcel), word_of(other, parcel))


if __name__ == "__main__":
    unittest.main()
