"""Point 3: the word read chain within chain is the word along the book's rows, by the same rules and fits."""

import unittest

from building import books_by_chance, parcels_about, read_plainly
from sieve.books import Book
from sieve.reading import path, word_of
from sieve.rows import unfolded, walk
from sieve.texts import read_book, show_book


class SameWord(unittest.TestCase):
    def test_many_books_and_parcels(self):
        for number, (default, chains) in enumerate(books_by_chance(3, 400)):
            book = Book(default, chains)
            again = read_book(show_book(book))
            rows = unfolded(book)
            for parcel in parcels_about(chains, number, 20):
                steps = []
                word = read_plainly(dict(chains), "main", parcel, steps) or default
                self.assertEqual(word_of(book, parcel), word)
                self.assertEqual(path(book, parcel), steps)
                self.assertEqual(word_of(again, parcel), word)
                way, end = walk(rows, default, parcel)
                self.assertEqual(end, word)
                self.assertEqual(len(way), len(steps))
                self.assertEqual([rows[place][:2] + (fits,) for place, fits in way], steps)

    def test_the_books_are_not_all_of_one_sort(self):
        # Else the test above would show little: calls, backs and both words must come up along the paths.
        seen = {}
        for number, (default, chains) in enumerate(books_by_chance(3, 400)):
            rules = dict(chains)
            for parcel in parcels_about(chains, number, 20):
                told = [rules[name][index][0] for name, index, fits in path(Book(default, chains), parcel) if fits]
                for head in told + [f"{told.count('call')} calls"]:
                    seen[head] = seen.get(head, 0) + 1
        for head in ("pass", "stop", "back", "call", "0 calls", "1 calls", "2 calls", "3 calls"):
            self.assertGreater(seen.get(head, 0), 100, seen)


if __name__ == "__main__":
    unittest.main()
