"""Point 40: the desk, each order with its answer, and what is refused, the first of these; with points 15 to 41."""

import inspect
import unittest

from sieve.desk import Desk
from sieve.errors import NoChain, NoName, NoRow, OutOfTime, Ring, SieveError, TooLong, TwoChains

HOUSE = """default stop
call guests from 10.0.0.0/24
pass turn 1-3
stop kind 17
chain guests
back kind 17
pass todoor 443"""
PARCEL = "0 6 10.0.0.7 40000 1.2.3.4 443"
LABEL = "6 10.0.0.7 40000 1.2.3.4 443"
ANSWER = "6 1.2.3.4 443 10.0.0.7 40000"
# A first row for each order, at a desk that has the book and the gate `a`, and the book `b`.
ROWS = {
    "book": "book c", "show": "show a", "boxes": "boxes a", "word": f"word a {PARCEL}", "path": f"path a {PARCEL}",
    "alike": "alike a b", "never": "never a", "shorter": "shorter c a", "gate": "gate a 10 100 9",
    "take": f"take a 5 {LABEL}", "talks": "talks a",
}
TAKE_ROWS = ("book", "gate")


def desk_with(**books):
    """A desk that keeps the books of these texts."""
    desk = Desk()
    for name, text in books.items():
        desk.say(f"book {name}\n{text}")
    return desk


def full_desk():
    """A desk with two books, and a gate that has a talk since the moment 5."""
    desk = desk_with(a=HOUSE, b="default pass\nstop kind 17")
    desk.say("gate a 10 100 9\nfrom 9.9.9.9 1-2 kind 1")
    desk.say(f"take a 5 {LABEL}")
    return desk


class Case(unittest.TestCase):
    def answers(self, desk, asked):
        for text, answer in asked:
            told = desk.say(text)
            self.assertEqual(told, answer, text)
            self.assertIs(type(told), str)

    def refused(self, desk, text, error, **values):
        """That the text is refused with just this error and these values, and the desk stays as it was."""
        before = self.seen(desk)
        with self.assertRaises(SieveError, msg=text) as caught:
            desk.say(text)
        self.assertIs(type(caught.exception), error, text)
        for name, value in values.items():
            self.assertEqual(getattr(caught.exception, name), value, text)
            self.assertIs(type(getattr(caught.exception, name)), type(value))
        self.assertEqual(self.seen(desk), before, text)

    def seen(self, desk):
        """What can be asked of a desk without changing it."""
        told = []
        for text in ("show a", "show b", "show c", "talks a", "talks b", "talks c"):
            try:
                told.append(desk.say(text))
            except NoName as error:
                told.append(error.name)
        return told


class Books(Case):
    def test_book(self):
        desk = Desk()
        self.answers(desk, [
            ("book a\ndefault pass", "ok 0"),
            ("book b\n" + HOUSE, "ok 5"),
            ("book pass\ndefault stop\npass\nstop\nback", "ok 3"),
            ("book abcdefghijkl\ndefault stop\ncall a\ncall a\nchain a\npass\nchain b\nstop\nstop", "ok 4"),
            ("book c\ndefault stop" + 120 * "\npass", "ok 120"),
        ])
        self.answers(desk, [("show a", "default pass"), ("show b", HOUSE)])

    def test_rows_without_a_word_are_passed_by(self):
        desk = Desk()
        self.answers(desk, [
            ("book a\n\n   \n# words\n  default   pass # more\n\n pass  kind 6#x\n#\nchain b\n\n", "ok 1"),
            ("show a", "default pass\npass kind 6\nchain b"),
        ])

    def test_kept_in_the_place_of_the_one_that_was_there(self):
        desk = desk_with(a="default pass", b="default stop")
        self.answers(desk, [("book a\ndefault stop\npass", "ok 1"), ("show a", "default stop\npass"),
                            ("show b", "default stop"), ("book a\ndefault pass", "ok 0"), ("show a", "default pass")])

    def test_show(self):
        text = "default pass\nstop from 10.0.0.9/24 todoor 80-80\nchain from\nback turn 0-3 kind 7"
        self.answers(desk_with(a=text), [
            ("show a", "default pass\nstop from 10.0.0.0/24 todoor 80\nchain from\nback kind 7")])

    def test_boxes(self):
        self.answers(desk_with(a="default pass", b="default pass\nstop kind 6", c="default pass\nstop turn 0", d=HOUSE), [
            ("boxes a", "1"), ("boxes b", "3"), ("boxes c", "2"), ("boxes d", "20")])

    def test_word(self):
        self.answers(desk_with(a=HOUSE), [
            ("word a " + PARCEL, "pass"),
            ("word a 0 17 10.0.0.7 40000 1.2.3.4 443", "stop"),
            ("word a 1 17 10.0.0.7 40000 1.2.3.4 443", "pass"),
            ("word a 0 6 10.0.1.7 40000 1.2.3.4 443", "stop"),
            ("word a 0 6 10.0.0.7 443 1.2.3.4 444", "stop"),
            ("word a 3 255 255.255.255.255 65535 255.255.255.255 65535", "pass"),
        ])

    def test_path(self):
        self.answers(desk_with(a=HOUSE, b="default pass"), [
            ("path a " + PARCEL, "main 0 guests 1 pass"),
            ("path a 0 17 10.0.0.7 40000 1.2.3.4 443", "main 0 guests 0 main 2 stop"),
            ("path a 1 17 10.0.0.7 40000 1.2.3.4 443", "main 0 guests 0 main 1 pass"),
            ("path a 0 6 10.0.1.7 40000 1.2.3.4 443", "stop"),
            ("path a 3 6 10.0.1.7 40000 1.2.3.4 443", "main 1 pass"),
            ("path b " + PARCEL, "pass"),
        ])

    def test_alike(self):
        desk = desk_with(a=HOUSE, b="default pass", c="default pass\nstop kind 17", d="default stop\npass kind 0-16\npass kind 18-255")
        self.answers(desk, [
            ("alike a a", "alike"), ("alike b b", "alike"), ("alike c d", "alike"), ("alike d c", "alike"),
            ("alike b c", "0 17 0.0.0.0 0 0.0.0.0 0"), ("alike c b", "0 17 0.0.0.0 0 0.0.0.0 0"),
            ("alike a b", "0 17 10.0.0.0 0 0.0.0.0 0"), ("alike b a", "0 17 10.0.0.0 0 0.0.0.0 0"),
        ])

    def test_never(self):
        self.answers(desk_with(
            a=HOUSE,
            b="default pass",
            c="default pass\nstop kind 6\nstop kind 6 turn 1",
            d="default stop\npass kind 6\ncall x kind 6\npass\nstop\nchain x\nstop\nchain none\nback\npass",
        ), [("never a", "none"), ("never b", "none"), ("never c", "main 1"),
            ("never d", "main 1 main 3 x 0 none 0 none 1")])

    def test_shorter(self):
        desk = desk_with(a="default stop\npass kind 6\ncall x kind 6\npass\nstop\nchain x\nstop\nchain none\nback\npass")
        before = desk.say("show a")
        self.answers(desk, [
            ("shorter b a", "ok 2"), ("show b", "default stop\npass kind 6\npass"), ("show a", before),
            ("shorter b b", "ok 2"), ("show b", "default stop\npass kind 6\npass"),
            ("alike a b", "alike"), ("never b", "none"),
            ("shorter a a", "ok 2"), ("show a", "default stop\npass kind 6\npass"),
            ("book a\n" + HOUSE, "ok 5"), ("shorter b a", "ok 5"), ("show b", HOUSE),
        ])


class Gates(Case):
    def test_gate_take_and_talks(self):
        desk = desk_with(a=HOUSE)
        self.answers(desk, [
            ("gate a 10 100 2", "ok"), ("talks a", "0"),
            ("take a 0 " + LABEL, "pass " + LABEL), ("talks a", "1"),
            ("take a 0 17 10.0.0.7 40000 1.2.3.4 443", "stop"), ("talks a", "1"),
            ("take a 4 " + ANSWER, "pass " + ANSWER), ("take a 104 " + LABEL, "pass " + LABEL), ("talks a", "1"),
            ("take a 105 6 10.0.0.8 1 1.2.3.4 443", "pass 6 10.0.0.8 1 1.2.3.4 443"), ("talks a", "2"),
            ("take a 105 6 10.0.0.9 1 1.2.3.4 443", "full"), ("talks a", "2"),
            ("take a 116 6 10.0.0.9 1 1.2.3.4 443", "pass 6 10.0.0.9 1 1.2.3.4 443"), ("talks a", "2"),
        ])

    def test_changes(self):
        desk = desk_with(a="default pass")
        self.answers(desk, [
            ("gate a 10 100 9\n\nfrom 9.9.9.9 5-6 from 10.0.0.0/8  # out\n#\n to 10.0.0.1 8080 to 9.9.9.9 todoor 80\n", "ok"),
            ("take a 1 6 10.0.0.7 1 1.2.3.4 443", "pass 6 9.9.9.9 5 1.2.3.4 443"),
            ("take a 1 6 10.0.0.8 1 1.2.3.4 443", "pass 6 9.9.9.9 6 1.2.3.4 443"),
            ("take a 1 6 10.0.0.9 1 1.2.3.4 443", "full"),
            ("take a 2 6 1.2.3.4 443 9.9.9.9 6", "pass 6 1.2.3.4 443 10.0.0.8 1"),
            ("take a 2 6 5.6.7.8 70 9.9.9.9 80", "pass 6 5.6.7.8 70 10.0.0.1 8080"),
            ("take a 2 6 10.0.0.1 8080 5.6.7.8 70", "pass 6 9.9.9.9 80 5.6.7.8 70"),
            ("talks a", "3"),
        ])

    def test_farewells(self):
        desk = desk_with(a="default pass")
        self.answers(desk, [
            ("gate a 10 100 9", "ok"),
            (f"take a 0 {LABEL} last", "pass " + LABEL), ("talks a", "1"),
            (f"take a 0 {LABEL} last", "pass " + LABEL), ("talks a", "1"),
            (f"take a 0 {ANSWER}", "pass " + ANSWER), ("talks a", "1"),
            (f"take a 0 {ANSWER}   last  # bye", "pass " + ANSWER), ("talks a", "0"),
            (f"take a 0 {LABEL}", "pass " + LABEL), (f"take a 0 {ANSWER} last", "pass " + ANSWER), ("talks a", "1"),
            (f"take a 0 {LABEL} # last", "pass " + LABEL), ("talks a", "1"),
            (f"take a 0 {LABEL} last", "pass " + LABEL), ("talks a", "0"),
        ])

    def test_out_of_time(self):
        desk = full_desk()
        for moment in (0, 4):
            for label in (LABEL, ANSWER, "17 1.1.1.1 1 2.2.2.2 2"):
                self.refused(desk, f"take a {moment} {label}", OutOfTime, moment=5)
                self.refused(desk, f"take a {moment} {label} last", OutOfTime, moment=5)
        self.answers(desk, [(f"take a 5 {LABEL} last", "pass " + LABEL), ("talks a", "1"),
                            (f"take a 15 {ANSWER}", "pass " + ANSWER), ("talks a", "1")])

    def test_the_book_that_stood_by_the_name(self):
        desk = desk_with(a="default pass", b="default stop")
        self.answers(desk, [
            ("gate a 10 100 9", "ok"), ("gate b 10 100 9", "ok"),
            ("book a\ndefault stop", "ok 0"), ("shorter b a", "ok 0"), ("book b\ndefault pass", "ok 0"),
            ("take a 0 " + LABEL, "pass " + LABEL), ("take b 0 " + LABEL, "stop"),
            ("word a " + PARCEL, "stop"), ("word b " + PARCEL, "pass"),
            ("gate a 10 100 9", "ok"), ("take a 0 " + LABEL, "stop"),
        ])

    def test_a_new_gate_in_the_place_of_the_one_that_was_there(self):
        desk = desk_with(a="default pass")
        self.answers(desk, [
            ("gate a 10 100 1\nfrom 9.9.9.9 5", "ok"), ("take a 50 " + LABEL, "pass 6 9.9.9.9 5 1.2.3.4 443"),
            ("gate a 1 1 2", "ok"), ("talks a", "0"), ("take a 0 " + LABEL, "pass " + LABEL), ("talks a", "1"),
            ("take a 0 6 10.0.0.8 1 1.2.3.4 443", "pass 6 10.0.0.8 1 1.2.3.4 443"), ("talks a", "2"),
            ("take a 2 17 1.1.1.1 1 2.2.2.2 2", "pass 17 1.1.1.1 1 2.2.2.2 2"), ("talks a", "1"),
        ])

    def test_books_and_gates_each_for_itself(self):
        desk = desk_with(a="default pass")
        self.refused(desk, "talks a", NoName, name="a")
        desk.say("gate a 10 100 9")
        desk.say("book b\ndefault stop")
        self.refused(desk, "talks b", NoName, name="b")
        self.answers(desk, [("talks a", "0"), ("show b", "default stop")])

    def test_two_desks_beside_each_other(self):
        one, other = full_desk(), Desk()
        self.refused(other, "show a", NoName, name="a")
        self.refused(other, "talks a", NoName, name="a")
        other.say("book a\ndefault pass")
        self.answers(one, [("show a", HOUSE), ("talks a", "1")])


class Words(Case):
    def test_blanks_and_remarks(self):
        desk = full_desk()
        for verb in ("show", "boxes", "word", "path", "alike", "never", "talks", "take", "shorter", "gate"):
            row = ROWS[verb]
            answer = desk.say(row)
            for text in ("   " + row, row + "   ", row.replace(" ", "    "), row + "#", row + " # words", row + "#x # y",
                         row + "\n", row + "\n\n  \n# words\n   # more", "  " + row.replace(" ", "  ") + "  #  "):
                self.assertEqual(desk.say(text), answer, text)

    def test_a_remark_within_a_row(self):
        desk = full_desk()
        self.assertEqual(desk.say("show a# b"), HOUSE)
        for text in ("#show a", "sh#ow a", "show #a", f"word a #{PARCEL}", "alike a #b", "gate a 10 100 #9"):
            self.refused(desk, text, NoRow, row=1)


class Numbers(Case):
    def test_moments(self):
        for moment in ("0", "1", "9999999999", "10000000000", "999999999999", "1000000000000"):
            desk = desk_with(a="default pass")
            self.answers(desk, [("gate a 10 100 9", "ok"), (f"take a {moment} {LABEL}", "pass " + LABEL)])
            if moment != "0":
                self.refused(desk, f"take a 0 {LABEL}", OutOfTime, moment=int(moment))
        desk = full_desk()
        for moment in ("1000000000001", "2000000000000", "9999999999999", "10000000000000", "00", "05", "0000000000005",
                       "-1", "+5", "5-6", "5-5", "5.0", "x", "10.0.0.1", "9" * 5000):
            self.refused(desk, f"take a {moment} {LABEL}", NoRow, row=1)
            self.refused(desk, f"take a {moment} {LABEL} last", NoRow, row=1)
        self.answers(desk, [(f"take a 5 {LABEL}", "pass " + LABEL)])

    def test_short_long_and_most(self):
        for place, greatest in enumerate((10 ** 9, 10 ** 9, 100)):
            for number in (1, 2, greatest - 1, greatest):
                words = ["10", "100", "9"]
                words[place] = str(number)
                self.answers(full_desk(), [("gate a " + " ".join(words), "ok"), ("talks a", "0")])
            for wrong in ("0", str(greatest + 1), str(greatest * 10), "00", "01", "-1", "+1", "1-1", "1-2", "x", "1.0"):
                words = ["10", "100", "9"]
                words[place] = wrong
                self.refused(full_desk(), "gate a " + " ".join(words), NoRow, row=1)

    def test_which_is_which(self):
        desk = desk_with(a="default pass")
        self.answers(desk, [
            ("gate a 3 7 2", "ok"), ("take a 0 " + LABEL, "pass " + LABEL),
            ("take a 3 " + ANSWER, "pass " + ANSWER), ("take a 10 17 1.1.1.1 1 2.2.2.2 2", "pass 17 1.1.1.1 1 2.2.2.2 2"),
            ("take a 10 18 1.1.1.1 1 2.2.2.2 2", "full"),
            ("take a 11 18 1.1.1.1 1 2.2.2.2 2", "pass 18 1.1.1.1 1 2.2.2.2 2"), ("talks a", "2"),
            ("take a 14 19 1.1.1.1 1 2.2.2.2 2", "pass 19 1.1.1.1 1 2.2.2.2 2"), ("talks a", "2"),
        ])

    def test_great_spans(self):
        desk = desk_with(a="default pass")
        self.answers(desk, [
            ("gate a 1000000000 999999999 1", "ok"), ("take a 0 " + LABEL, "pass " + LABEL),
            ("take a 1000000000 " + ANSWER, "pass " + ANSWER), ("take a 1999999999 17 1.1.1.1 1 2.2.2.2 2", "full"),
            ("take a 2000000000 17 1.1.1.1 1 2.2.2.2 2", "pass 17 1.1.1.1 1 2.2.2.2 2"),
        ])

    def test_a_hundred_talks(self):
        desk = desk_with(a="default pass")
        desk.say("gate a 1 1 100")
        for number in range(100):
            desk.say(f"take a 0 {number} 1.1.1.1 1 2.2.2.2 2")
        self.answers(desk, [("talks a", "100"), ("take a 0 100 1.1.1.1 1 2.2.2.2 2", "full")])

    def test_parcels_and_labels(self):
        bounds = (3, 255, None, 65535, None, 65535)
        for place, greatest in enumerate(bounds):
            right = [str(greatest), "0"] if greatest else ["0.0.0.0", "255.255.255.255"]
            wrong = [str((greatest or 0) + 1), "00", "01", "-1", "0-1", "x", "0/0", "10.0.0.0/32", "10.0.0.1-10.0.0.2",
                     "10.0.0.256", "10.0.0.01", "+0", "1.1.1"]
            desk = full_desk()
            for word in right + wrong:
                words = PARCEL.split(" ")
                words[place] = word
                rows = [f"{verb} a " + " ".join(words) for verb in ("word", "path")]
                rows += [f"take a 5 {' '.join(words[1:])}{last}" for last in ("", " last") if place > 0]
                for row in rows:
                    if word in right:
                        self.assertIs(type(desk.say(row)), str)
                    else:
                        self.refused(desk, row, NoRow, row=1)


class FirstRows(Case):
    def test_none_of_the_interfaces(self):
        for text in ("", " ", "#", "# show a", "\n", "\nshow a", "  \n\nshow a", "#\nbook a\ndefault pass", "a", "shows a",
                     "Show a", "SHOW a", "show-a", "say show a", "default pass", "chain a", "pass", "open a", "last",
                     "from 9.9.9.9 5", "1", "exit", "gates a", "reached a", "length a"):
            self.refused(full_desk(), text, NoRow, row=1)

    def test_a_word_too_few_or_too_many(self):
        for verb, row in ROWS.items():
            words = row.split(" ")
            behind = "\ndefault pass" if verb == "book" else ""
            for count in range(len(words)):
                self.refused(full_desk(), " ".join(words[:count]) + behind, NoRow, row=1)
                if count > 0:
                    self.refused(full_desk(), " ".join(words[:count] + words[count + 1:]) + behind, NoRow, row=1)
            for word in ("a", "1", "10.0.0.1", "last"):
                if (verb, word) != ("take", "last"):
                    self.refused(full_desk(), row + " " + word + behind, NoRow, row=1)
            self.refused(full_desk(), row + " last last" + behind, NoRow, row=1)

    def test_the_word_last(self):
        for text in (f"take a 5 {LABEL} Last", f"take a 5 {LABEL} lasts", f"take a 5 last {LABEL}", f"take last a 5 {LABEL}",
                     "take a 5 last", "take a last", f"take a last {LABEL}", f"take a 5 {LABEL[2:]} last",
                     f"take a 5 {LABEL} 1 last", f"take a {LABEL} last", "take a 5 6 10.0.0.7 40000 1.2.3.4 last"):
            self.refused(full_desk(), text, NoRow, row=1)
        desk = desk_with(last="default pass")
        self.answers(desk, [("gate last 1 1 1", "ok"), (f"take last 0 {LABEL} last", "pass " + LABEL), ("talks last", "1")])

    def test_names(self):
        for name in ("A", "aA", "a1", "1", "a-b", "a.b", "a_b", "abcdefghijklm", "10.0.0.1", "a,", "?"):
            for verb, row in ROWS.items():
                words = row.split(" ")
                behind = "\ndefault pass" if verb == "book" else ""
                for place in (1, 2) if verb in ("alike", "shorter") else (1,):
                    wrong = words[:place] + [name] + words[place + 1:]
                    self.refused(full_desk(), " ".join(wrong) + behind, NoRow, row=1)

    def test_names_that_are_words_too(self):
        for name in ("pass", "from", "book", "show", "gate", "take", "last", "main", "none", "alike", "abcdefghijkl", "z"):
            desk = Desk()
            self.answers(desk, [
                (f"book {name}\ndefault pass", "ok 0"), (f"show {name}", "default pass"), (f"alike {name} {name}", "alike"),
                (f"shorter {name} {name}", "ok 0"), (f"gate {name} 1 1 1", "ok"), (f"talks {name}", "0")])


class RowsBehind(Case):
    def test_behind_a_first_row_that_takes_none(self):
        for verb, row in ROWS.items():
            if verb not in TAKE_ROWS:
                for behind in ("default pass", "from 9.9.9.9 5", "x", row, "  x  # y"):
                    self.refused(full_desk(), f"{row}\n{behind}", NoRow, row=2)
                    self.refused(full_desk(), f"{row}\n\n{behind}\n{behind}", NoRow, row=3)
                    self.refused(full_desk(), f"{row}\n\n # x\n   \n{behind}\n", NoRow, row=5)

    def test_no_row_of_a_book_has_a_word(self):
        for text in ("book c", "book c\n", "book c\n\n\n\n", "book c # x", "book c\n  \n# default pass\n\n", "book a\n#"):
            self.refused(full_desk(), text, NoRow, row=2)

    def test_rows_of_a_book(self):
        for rows, row in (("default", 2), ("pass", 2), ("default back", 2), ("\n\nx", 4), ("default pass\nx", 3),
                          ("default pass\n\n#\npass kind 6\npass kind 256\nx", 6), ("default pass\ndefault pass", 3),
                          ("default pass\nchain", 3), ("default pass\nchain A", 3), ("default pass\nchain a\n\nchain a b", 5),
                          ("default pass\nfrom 9.9.9.9 5", 3), ("book c", 2), ("default pass\nbook c", 3)):
            for name in ("a", "c"):
                self.refused(full_desk(), f"book {name}\n{rows}", NoRow, row=row)

    def test_rows_of_a_book_ahead_of_its_refusals(self):
        self.refused(full_desk(), "book a\ndefault pass\ncall x\nchain main\nx", NoRow, row=5)

    def test_refusals_of_a_book(self):
        long = "default stop\n" + 121 * "pass\n"
        for name in ("a", "c"):
            desk = full_desk()
            self.refused(desk, f"book {name}\ndefault pass\nchain main", TwoChains, name="main")
            self.refused(desk, f"book {name}\ndefault pass\ncall no\nchain x\nchain y\nchain y\nchain x", TwoChains, name="y")
            self.refused(desk, f"book {name}\ndefault pass\ncall x\ncall y\nchain y\ncall y", NoChain, name="x")
            self.refused(desk, f"book {name}\ndefault pass\nchain y\ncall y", Ring, names=["y"])
            self.refused(desk, f"book {name}\n{long}", TooLong, total=121)

    def test_rows_of_changes(self):
        for rows, row in (("x", 2), ("from 9.9.9.9 5\nx", 3), ("\n\n#\nfrom 9.9.9.9", 5), ("from 9.9.9.9 5 turn 0", 2),
                          ("from 9.9.9.9 5\n\nto 9.9.9.9 5 kind 6 kind 6\nx", 4), ("default pass", 2), ("gate a 1 1 1", 2),
                          ("from 9.9.9.9 2-1", 2), ("from 9.9.9.9 65536", 2), ("pass kind 6", 2), ("to 9.9.9.0/24 5", 2)):
            for name in ("a", "b"):
                desk = full_desk()
                self.refused(desk, f"gate {name} 1 1 1\n{rows}", NoRow, row=row)
            # The gate that was there goes on, at its time.
            self.refused(desk, f"take a 4 {LABEL}", OutOfTime, moment=5)
            self.answers(desk, [(f"take a 5 {ANSWER}", "pass " + ANSWER)])


class Names(Case):
    def test_no_book(self):
        for row in ("show x", "boxes x", f"word x {PARCEL}", f"path x {PARCEL}", "never x", "gate x 1 1 1",
                    "alike x y", "alike x a", "alike a x", "alike x x", "shorter y x", "shorter a x", "shorter x x"):
            self.refused(full_desk(), row, NoName, name="x")

    def test_no_gate(self):
        for row in ("talks x", f"take x 5 {LABEL}", f"take x 5 {LABEL} last"):
            self.refused(full_desk(), row, NoName, name="x")
        for row in ("talks b", f"take b 5 {LABEL}"):
            self.refused(full_desk(), row, NoName, name="b")

    def test_names_that_need_not_stand(self):
        self.answers(full_desk(), [("shorter x a", "ok 5"), ("book y\ndefault pass", "ok 0"), ("show x", HOUSE)])

    def test_a_name_whose_book_was_refused(self):
        desk = Desk()
        self.refused(desk, "book a\ndefault pass\nx", NoRow, row=3)
        self.refused(desk, "show a", NoName, name="a")


class Order(Case):
    def test_the_first_row_ahead_of_all(self):
        for text in ("shows x\ny", f"word x {PARCEL} 1\ny", "gate x 0 1 1\ny", "alike x A\ny", f"take x y {LABEL}\ny",
                     "book A\ny", "talks x x\ny", "shorter X x\ny"):
            self.refused(full_desk(), text, NoRow, row=1)

    def test_a_row_behind_ahead_of_the_names(self):
        for text in ("show x\n\ny", f"word x {PARCEL}\n\ny", "alike x z\n#\ny", f"take x 5 {LABEL}\n\ny", "talks x\n \ny",
                     "shorter y x\n\ny", "boxes x\n\ny", "never x\n\ny", f"path x {PARCEL}\n\ny"):
            self.refused(full_desk(), text, NoRow, row=3)

    def test_the_names_ahead_of_what_the_rows_bring(self):
        self.refused(full_desk(), "gate x 1 1 1\ny", NoName, name="x")
        self.refused(full_desk(), "gate x 1 1 1\n\nfrom 9.9.9.9 5 turn 1", NoName, name="x")

    def test_the_names_ahead_of_the_time(self):
        self.refused(full_desk(), f"take x 0 {LABEL}", NoName, name="x")
        self.refused(full_desk(), f"take a 0 {LABEL}\ny", NoRow, row=2)
        self.refused(full_desk(), f"take a 0 {LABEL} 1", NoRow, row=1)

    def test_what_is_refused_changes_no_time(self):
        desk = full_desk()
        self.refused(desk, f"take a 999 {LABEL}\ny", NoRow, row=2)
        self.refused(desk, f"take a 999 {LABEL} y", NoRow, row=1)
        self.answers(desk, [(f"take a 5 {LABEL}", "pass " + LABEL)])


class Interface(unittest.TestCase):
    def test_arguments(self):
        self.assertEqual(list(inspect.signature(Desk).parameters), [])
        self.assertEqual(list(inspect.signature(Desk().say).parameters), ["text"])

    def test_the_orders(self):
        for verb, row in ROWS.items():
            answer = full_desk().say(row + ("\ndefault pass" if verb == "book" else ""))
            self.assertIs(type(answer), str)


if __name__ == "__main__":
    unittest.main()
