"""The interface: everything is there under its name, with its arguments, and hands out nothing that it keeps."""

import importlib
import inspect
import unittest

from building import EVERY, box_with, labels_with, lists_within
from sieve.bits import parts
from sieve.books import Book
from sieve.boxes import left, rests
from sieve.changes import choice
from sieve.comparing import joint
from sieve.gate import Gate
from sieve.looking import looked
from sieve.reaching import cover, reached, shorter, without
from sieve.reading import path
from sieve.rows import unfolded, walk
from sieve.talks import Table

FUNCTIONS = {
    "bits": {"beginning": "address bits", "shared": "one other", "bits_of": "low high", "parts": "low high"},
    "addresses": {"read_address": "text", "show_address": "address"},
    "stretches": {"holds": "stretch number", "meet": "one other", "width": "stretch"},
    "boxes": {"has": "box point", "within": "box other", "common": "box other", "count_of": "box", "corner": "box",
              "rests": "box other", "left": "box others", "fills": "others box"},
    "rules": {"every": "", "rule_of": "told"},
    "texts": {"read_rule": "row", "show_rule": "told", "read_book": "text", "show_book": "book"},
    "reading": {"word_of": "book parcel", "path": "book parcel"},
    "rows": {"unfolded": "book", "walk": "rows default parcel"},
    "looking": {"looked": "rows default box"},
    "comparing": {"joint": "one other", "alike": "one other", "parting": "one other"},
    "reaching": {"reached": "book", "cover": "book name index", "without": "book name index",
                 "needed": "book name index", "shorter": "book"},
    "talks": {"flip": "label"},
    "changes": {"changed": "label side address door", "choice": "changes label table"},
    "slips": {"read_parcel": "words", "show_parcel": "parcel", "read_change": "row"},
}

CLASSES = {
    "rules": {
        "Rule": ("box", {"fits": "parcel"}),
        "Word": ("box word", {"fits": "parcel", "told": "", "head": ""}),
        "Back": ("box", {"fits": "parcel", "told": "", "head": ""}),
        "Call": ("box name", {"fits": "parcel", "told": "", "head": ""}),
    },
    "books": {"Book": ("default chains", {"chain_names": "", "chain": "name", "length": "", "told": ""})},
    "talks": {"Table": ("short long most", {"at": "moment", "turn": "label", "free": "label sent", "begin": "label sent",
                                            "go_on": "label last", "is_full": "", "standing": ""})},
    "gate": {"Gate": ("book changes short long most", {"turn": "label", "take": "moment label last", "standing": ""})},
    "desk": {"Desk": ("", {"say": "text"})},
}

CALLS = [("main", [("call", box_with(turn=0), "a"), ("back", box_with(turn=1)), ("stop", box_with(turn=0, kind=6)),
                   ("pass", box_with(turn=2))]),
         ("a", [("pass", box_with(kind=6)), ("back", EVERY)])]


def arguments(thing):
    return " ".join(name for name in inspect.signature(thing).parameters if name != "self")


class Names(unittest.TestCase):
    def test_functions(self):
        for module, functions in FUNCTIONS.items():
            for name, asked in functions.items():
                found = getattr(importlib.import_module("sieve." + module), name)
                self.assertEqual(arguments(found), asked, (module, name))

    def test_classes(self):
        for module, classes in CLASSES.items():
            for name, (made_of, methods) in classes.items():
                found = getattr(importlib.import_module("sieve." + module), name)
                self.assertTrue(inspect.isclass(found))
                self.assertEqual(arguments(found), made_of, (module, name))
                for method, asked in methods.items():
                    self.assertEqual(arguments(getattr(found, method)), asked, (module, name, method))


class ListsOfTheirOwn(unittest.TestCase):
    def asked(self):
        """Each question that is answered with a list or has one within its answer."""
        book, other = Book("stop", CALLS), Book("pass", CALLS[:1] + [("a", [])])
        rows = unfolded(book)
        table, gate = Table(10, 100, 9), Gate(book, [("from", labels_with(), 1, (1, 2))], 10, 100, 9)
        table.begin((6, 1, 2, 3, 4), (6, 1, 2, 3, 4))
        gate.take(0, (6, 1, 2, 3, 4))
        return [
            lambda: parts(3, 900), lambda: rests(EVERY, box_with(kind=6)), lambda: left(EVERY, [box_with(kind=6)]),
            lambda: left(EVERY, []), lambda: book.chain_names(), lambda: book.chain("main"), lambda: book.told(),
            lambda: path(book, (0, 6, 0, 0, 0, 0)), lambda: unfolded(book), lambda: walk(rows, "stop", (0, 6, 0, 0, 0, 0)),
            lambda: looked(rows, "stop", EVERY), lambda: looked([], "pass", EVERY), lambda: joint(book, other),
            lambda: reached(book), lambda: cover(book, "main", 2), lambda: without(book, "a", 0).told(),
            lambda: shorter(book).told(), lambda: table.standing(), lambda: gate.standing(),
        ]

    def test_each_list_is_a_new_one(self):
        for number, ask in enumerate(self.asked()):
            first = ask()
            kept = [list(found) for found in lists_within(first)]
            second = ask()
            found = lists_within(first) + lists_within(second)
            self.assertGreater(len(found), 0, number)
            self.assertEqual(len({id(one) for one in found}), len(found), number)
            for one in lists_within(second):
                one.clear()
            self.assertEqual([list(one) for one in lists_within(first)], kept, number)
            # Rules as objects are the same ones each time; all else is told anew.
            self.assertEqual([list(one) for one in lists_within(ask())], kept, number)

    def test_lists_handed_in_stay(self):
        chains = [("main", [("call", box_with(turn=0), "a"), ("pass", EVERY)]), ("a", [("back", EVERY)])]
        changes = [("from", labels_with(), 1, (1, 2))]
        others = [box_with(kind=6), box_with(turn=1)]
        before = (repr(chains), repr(changes), repr(others))
        book = Book("stop", chains)
        rows = unfolded(book)
        shown = repr(rows)
        left(EVERY, others)
        looked(rows, "stop", EVERY)
        walk(rows, "stop", (0, 6, 0, 0, 0, 0))
        for question in (reached, shorter, unfolded):
            question(book)
        gate = Gate(book, changes, 10, 100, 9)
        gate.take(0, (6, 1, 2, 3, 4))
        choice(changes, (6, 1, 2, 3, 4), Table(10, 100, 9))
        self.assertEqual((repr(chains), repr(changes), repr(others)), before)
        self.assertEqual(repr(rows), shown)

    def test_what_is_done_behind_changes_nothing(self):
        chains = [("main", [("call", box_with(turn=0), "a"), ("pass", EVERY)]), ("a", [("back", EVERY)])]
        book = Book("stop", chains)
        told = repr(book.told())
        chains[0][1].clear()
        chains.append(("b", []))
        self.assertEqual(repr(book.told()), told)
        self.assertEqual(book.chain_names(), ["main", "a"])


if __name__ == "__main__":
    unittest.main()
