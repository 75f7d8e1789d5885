"""Point 18: the text of a book, read and shown, and what is refused, row by row and then as point 17 tells."""

import inspect
import unittest

from building import EVERY, books_by_chance, box_with
from sieve import errors
from sieve.books import Book
from sieve.errors import NoChain, NoRow, Ring, SieveError, TooLong, TwoChains
from sieve.texts import read_book, show_book

TEN = 167772160

# Of each text that is shown, the book; these texts are read as the book too.
SHOWN = {
    "default pass": ("pass", [("main", [])]),
    "default stop": ("stop", [("main", [])]),
    "default stop\npass": ("stop", [("main", [("pass", EVERY)])]),
    "default pass\nchain a": ("pass", [("main", []), ("a", [])]),
    "default pass\nchain a\nchain b\nchain c": ("pass", [("main", []), ("a", []), ("b", []), ("c", [])]),
    "default pass\nchain pass\npass\nchain chain\nchain default\nstop\nchain from":
        ("pass", [("main", []), ("pass", [("pass", EVERY)]), ("chain", []), ("default", [("stop", EVERY)]), ("from", [])]),
    "default stop\nback kind 6\ncall guests turn 0\nstop todoor 80\nchain guests\npass from 10.0.0.0/24\nback\nchain alone\nstop":
        ("stop", [
            ("main", [("back", box_with(kind=6)), ("call", box_with(turn=0), "guests"), ("stop", box_with(receiver_door=80))]),
            ("guests", [("pass", box_with(sender=(TEN, TEN + 255))), ("back", EVERY)]),
            ("alone", [("stop", EVERY)]),
        ]),
    "default pass\ncall b\nchain b\ncall a\ncall a\nchain a": ("pass", [
        ("main", [("call", EVERY, "b")]), ("b", [("call", EVERY, "a"), ("call", EVERY, "a")]), ("a", [])]),
    "default pass\nchain abcdefghijkl\npass\npass": ("pass", [("main", []), ("abcdefghijkl", [("pass", EVERY)] * 2)]),
}

# Texts that are read, but shown otherwise.
READ = {
    "\n\ndefault pass\n\n": "default pass",
    "# a book\n  # of rules\ndefault pass": "default pass",
    "  default   stop  # at the end": "default stop",
    "default stop#pass": "default stop",
    "default pass\n   \n#\npass\n\n # between\nstop\n": "default pass\npass\nstop",
    "default pass\nchain   a  # the first\n\n  pass  kind 6-6\n  chain b#\n\n\n": "default pass\nchain a\npass kind 6\nchain b",
    "default pass\nchain a#b": "default pass\nchain a",
    "default pass\n# chain a\npass # chain b\n#chain c": "default pass\npass",
    "default pass\npass todoor 1 from 1.2.3.4/8": "default pass\npass from 1.0.0.0/8 todoor 1",
    "\n" * 5000 + "default pass" + "\n" * 5000 + "stop": "default pass\nstop",
}


class Shown(unittest.TestCase):
    def test_texts(self):
        for text, told in SHOWN.items():
            self.assertEqual(show_book(Book(told[0], told[1])), text)

    def test_the_book_stays_as_it_was(self):
        for told in SHOWN.values():
            book = Book(told[0], told[1])
            first = show_book(book)
            self.assertEqual(book.told(), told)
            self.assertEqual(show_book(book), first)

    def test_kind_and_arguments(self):
        self.assertIs(type(show_book(Book("pass", [("main", [])]))), str)
        self.assertEqual(list(inspect.signature(show_book).parameters), ["book"])


class Read(unittest.TestCase):
    def test_what_is_shown(self):
        for text, told in SHOWN.items():
            self.assertEqual(read_book(text).told(), told)

    def test_other_ways_to_write(self):
        for text, shown in READ.items():
            self.assertEqual(show_book(read_book(text)), shown)
            self.assertEqual(read_book(text).told(), SHOWN.get(shown, read_book(shown).told()))

    def test_rows_without_a_word_everywhere(self):
        for text, told in SHOWN.items():
            for between in ("\n\n", "\n \n", "\n# x\n", " # x\n#\n  \n"):
                wide = between + text.replace("\n", between) + between
                self.assertEqual(read_book(wide).told(), told)

    def test_what_is_shown_is_read_as_the_same_book(self):
        for default, chains in books_by_chance(18, 300):
            text = show_book(Book(default, chains))
            self.assertEqual(read_book(text).told(), (default, chains))
            self.assertEqual(show_book(read_book(text)), text)
            self.assertFalse([row for row in text.split("\n") if row != " ".join(row.split())])

    def test_many_chains_and_rules(self):
        names = ["c" * count for count in range(1, 12)] + ["d" * count for count in range(1, 12)]
        rows = ["default stop"] + ["pass"] * 120
        for name in names:
            rows += ["chain " + name] + ["stop kind 1"] * 8
        book = read_book("\n".join(rows))
        self.assertEqual(book.length(), 120)
        self.assertEqual(book.chain_names(), ["main"] + names)
        self.assertEqual([len(book.chain(name)) for name in names], [8] * len(names))
        self.assertEqual(show_book(book), "\n".join(rows))

    def test_kind_and_arguments(self):
        self.assertIs(type(read_book("default pass")), Book)
        self.assertEqual(list(inspect.signature(read_book).parameters), ["text"])

    def test_each_reading_is_a_book_of_its_own(self):
        one = read_book("default pass\npass")
        one.told()[1].clear()
        one.chain("main").clear()
        self.assertEqual(one.told(), ("pass", [("main", [("pass", EVERY)])]))
        self.assertEqual(read_book("default pass\npass").told(), ("pass", [("main", [("pass", EVERY)])]))


class Refused(unittest.TestCase):
    def refused(self, text, error):
        for taken in (error, SieveError, ValueError):
            with self.assertRaises(taken, msg=repr(text)) as caught:
                read_book(text)
            self.assertIs(type(caught.exception), error, repr(text))
        others = [one for one in vars(errors).values() if isinstance(one, type) and one not in (error, SieveError)]
        self.assertFalse([one for one in others if isinstance(caught.exception, one)], repr(text))
        return caught.exception

    def row_refused(self, text, row):
        self.assertEqual(self.refused(text, NoRow).row, row, repr(text))

    def test_no_row_with_a_word(self):
        for text in ("", " ", "\n", "\n\n\n", "#", "# default pass", "  \n # x\n#\n", "\n" * 60000):
            self.row_refused(text, 1)

    def test_a_bad_default(self):
        for row in ("default", "default back", "default go", "default Pass", "Default pass", "default pass stop",
                    "default pass pass", "default call a", "default call", "default 1", "default pass kind 6",
                    "defaults pass", "pass default", "default#pass", "default pass,", "default default", "default chain"):
            self.row_refused(row, 1)
            self.row_refused(row + "\npass\nchain a", 1)
            self.row_refused("\n# x\n" + row + "\n\n", 3)
            self.row_refused("\n\n\n" + row + "\ndefault pass", 4)

    def test_a_rule_or_a_chain_ahead_of_the_default(self):
        for row in ("pass", "stop kind 6", "back", "call a", "chain a", "chain main", "chain default"):
            self.row_refused(row, 1)
            self.row_refused(row + "\ndefault pass", 1)
            self.row_refused("# x\n\n" + row + "\ndefault pass\npass", 3)

    def test_a_second_default(self):
        self.row_refused("default pass\ndefault pass", 2)
        self.row_refused("default pass\n\n# x\ndefault stop\npass", 4)
        self.row_refused("default pass\npass\nchain a\nstop\ndefault stop", 5)
        self.row_refused("default pass\nchain a\ndefault pass\nchain b", 3)

    def test_a_bad_row_first_amid_and_last(self):
        bad = ("chain", "chain a b", "chain A", "chain aaaaaaaaaaaaa", "chain a1", "chain a-b", "chain 1", "chain #a",
               "chain b kind 6", "chains b", "Chain b", "b chain", "chain main main",
               "passs", "go", "kind 6", "pass kind", "pass kind 256", "pass x", "call", "call B", "pass kind 6 kind 6",
               "pass from 1.2.3", "pass from 1.2.3.4/33", "pass turn 4", "stop todoor 2-1", "default pass", "default", "-")
        for row in bad:
            self.row_refused("default pass\n" + row, 2)
            self.row_refused("default pass\n" + row + "\npass\nchain a\nstop", 2)
            self.row_refused("default pass\npass\n\n" + row + "\nchain a\nstop", 4)
            self.row_refused("default pass\npass\nchain a\n" + row + "\nstop", 4)
            self.row_refused("# x\ndefault pass\npass\nchain a\nstop\n\n  " + row + "  # y\n", 7)
            self.row_refused("default pass\n" + "\n" * 30 + "chain a\n" + row, 33)

    def test_the_first_of_two(self):
        self.row_refused("default go\npass kind", 1)
        self.row_refused("pass\ndefault go", 1)
        self.row_refused("default pass\npass kind\nchain", 2)
        self.row_refused("default pass\nchain\npass kind", 2)
        self.row_refused("default pass\npass\nchain a b\ndefault pass\nx", 3)
        self.row_refused("default pass\npass\ndefault pass\nchain a b", 3)
        self.row_refused("\nx\ny\nz", 2)

    def test_every_place_of_a_long_text(self):
        rows = "default pass\npass\n# x\nchain a\n\nstop kind 6\nchain b\nback".split("\n")
        for place in range(len(rows)):
            broken = rows[:place] + [rows[place].split("#")[0] + " ?"] + rows[place + 1:]
            self.row_refused("\n".join(broken), place + 1)
            added = rows[:place] + ["?"] + rows[place:]
            self.row_refused("\n".join(added), place + 1)

    def test_rows_ahead_of_the_refusals_of_books(self):
        for text in ("default pass\nchain a\nchain a", "default pass\nchain main", "default pass\ncall a",
                     "default pass\ncall main", "default pass" + "\npass" * 121):
            rows = text.split("\n")
            self.row_refused(text + "\nx", len(rows) + 1)
            self.row_refused(text + "\n\npass kind 256\n", len(rows) + 2)
            self.row_refused(text + "\n# x\n\ndefault pass", len(rows) + 3)
            self.row_refused("x\n" + text, 1)
            self.row_refused(rows[0] + "\nchain B\n" + "\n".join(rows[1:]), 2)

    def test_two_chains(self):
        for text, name in (("chain main", "main"), ("chain a\nchain a", "a"), ("chain a\nchain b\nchain b\nchain a", "b"),
                           ("call c\nchain a\npass\nchain main\nchain a", "main")):
            self.assertEqual(self.refused("default pass\n" + text, TwoChains).name, name)

    def test_no_chain(self):
        for text, name in (("call a", "a"), ("call a\nchain b\ncall c", "a"), ("chain b\ncall c\nchain c\ncall pass", "pass"),
                           ("call main\ncall x", "x")):
            self.assertEqual(self.refused("default pass\n" + text, NoChain).name, name)

    def test_ring(self):
        for text, names in (("call main", ["main"]), ("chain a\ncall a", ["a"]),
                            ("call a\nchain a\ncall b\nchain b\npass\ncall a", ["a", "b"])):
            self.assertEqual(sorted(self.refused("default stop\n" + text, Ring).names), names)

    def test_too_long(self):
        self.assertEqual(read_book("default pass" + "\npass" * 120).length(), 120)
        self.assertEqual(self.refused("default pass" + "\npass" * 121, TooLong).total, 121)
        text = "default pass" + "\ncall a" * 40 + "\nchain a\npass\nstop\nback"
        self.assertEqual(self.refused(text, TooLong).total, 160)

    def test_the_order_of_these(self):
        self.assertEqual(self.refused("default pass\ncall x\ncall main\nchain a\nchain a", TwoChains).name, "a")
        self.assertEqual(self.refused("default pass\ncall main\ncall x", NoChain).name, "x")
        self.assertEqual(self.refused("default pass\ncall main" + "\npass" * 130, Ring).names, ["main"])


if __name__ == "__main__":
    unittest.main()
