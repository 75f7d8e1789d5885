"""The desk: books and gates kept by names, and asked by texts."""

from sieve.comparing import parting
from sieve.errors import NoName, NoRow
from sieve.gate import Gate
from sieve.looking import looked_by
from sieve.reaching import reached, shorter
from sieve.reading import path, word_of
from sieve.rules import every
from sieve.slips import read_change_words, read_label, read_parcel, show_label, show_parcel
from sieve.texts import ALONE, read_book_rows, read_number, read_numbered, rows_of, show_book
from sieve.words import is_name, words_of

# How many names stand behind each first word.
NAME_COUNTS = {
    "book": 1, "show": 1, "boxes": 1, "word": 1, "path": 1, "alike": 2, "never": 1, "shorter": 2,
    "gate": 1, "take": 1, "talks": 1,
}
PARCEL_VERBS = ("word", "path")
ROWS_VERBS = ("book", "gate")
# Their first name is one to keep by, so nothing need stand by it.
KEEPING_VERBS = ("book", "shorter")
GATE_VERBS = ("take", "talks")

FIRST_BEHIND = 2
GREATEST_MOMENT = 1000000000000
GATE_BOUNDS = (1000000000, 1000000000, 100)
LAST = "last"


class Order:
    """What a text asks of a desk: its first word, its names, what is given with them, and the rows behind."""

    def __init__(self, verb, names, given, rows):
        self.verb = verb
        self.names = names
        self.given = given
        self.rows = rows


def read_from_one(word, greatest):
    """The number from 1 on that the word writes; NoRow where it writes none up to the greatest."""
    number = read_number(word, greatest)
    if number == 0:
        raise NoRow(ALONE)
    return number


def read_bounds(words):
    """Short, long and most of a gate, as a tuple."""
    if len(words) != len(GATE_BOUNDS):
        raise NoRow(ALONE)
    return tuple([read_from_one(word, greatest) for word, greatest in zip(words, GATE_BOUNDS)])


def read_taking(words):
    """What a gate takes, as a tuple (moment, label, last)."""
    if words == []:
        raise NoRow(ALONE)
    last = words[-1] == LAST
    label_words = words[1:-1] if last else words[1:]
    return (read_number(words[0], GREATEST_MOMENT), read_label(label_words), last)


def read_given(verb, words):
    """What the words behind the names write; NoRow where the first word takes no such ones."""
    if verb in PARCEL_VERBS:
        return read_parcel(words)
    if verb == "gate":
        return read_bounds(words)
    if verb == "take":
        return read_taking(words)
    if words != []:
        raise NoRow(ALONE)
    return ()


def read_names(words, count):
    """The words, where they are so many names; else NoRow."""
    if len(words) != count or not all([is_name(word) for word in words]):
        raise NoRow(ALONE)
    return words


def read_order(text):
    """The order that the text writes; NoRow where its first row or a row behind it can't stand there."""
    words = words_of(text.partition("\n")[0])
    if words == [] or words[0] not in NAME_COUNTS:
        raise NoRow(ALONE)
    verb = words[0]
    behind_names = 1 + NAME_COUNTS[verb]
    names = read_names(words[1:behind_names], NAME_COUNTS[verb])
    given = read_given(verb, words[behind_names:])
    rows = [row for row in rows_of(text) if row[0] >= FIRST_BEHIND]
    if rows != [] and verb not in ROWS_VERBS:
        raise NoRow(rows[0][0])
    return Order(verb, names, given, rows)


def answer_show(found, given):
    """The book's text."""
    return show_book(found[0])


def answer_boxes(found, given):
    """How many boxes the book's looker tells for all parcels."""
    return str(len(looked_by(found[0], every())))


def answer_word(found, given):
    """The word of a parcel."""
    return word_of(found[0], given)


def answer_path(found, given):
    """The rules that fit along a parcel's path, and its word."""
    words = [f"{name} {index}" for name, index, fits in path(found[0], given) if fits]
    return " ".join(words + [word_of(found[0], given)])


def answer_alike(found, given):
    """Whether two books are alike, or their parting."""
    parcel = parting(found[0], found[1])
    return "alike" if parcel is None else show_parcel(parcel)


def answer_never(found, given):
    """The rules that are never reached."""
    words = [f"{name} {index}" for name, index, parcel in reached(found[0]) if parcel is None]
    return "none" if words == [] else " ".join(words)


def answer_take(found, given):
    """How a label goes out of a gate."""
    told = found[0].take(given[0], given[1], given[2])
    return told[0] if told[1] is None else told[0] + " " + show_label(told[1])


def answer_talks(found, given):
    """How many talks of a gate stand."""
    return str(len(found[0].standing()))


# The orders that keep nothing at the desk, by their first word.
ANSWERS = {
    "show": answer_show, "boxes": answer_boxes, "word": answer_word, "path": answer_path, "alike": answer_alike,
    "never": answer_never, "take": answer_take, "talks": answer_talks,
}


class Desk:
    """Books and gates by names, each for itself."""

    def __init__(self):
        self.books = {}
        self.gates = {}

    def say(self, text):
        """Does what the text asks, and answers a text; what is refused changes nothing."""
        order = read_order(text)
        found = self.found_for(order)
        if order.verb == "book":
            return self.keep_book(order.names[0], read_book_rows(order.rows, FIRST_BEHIND))
        if order.verb == "shorter":
            return self.keep_book(order.names[0], shorter(found[0]))
        if order.verb == "gate":
            return self.keep_gate(order, found[0])
        answer = ANSWERS[order.verb]
        return answer(found, order.given)

    def found_for(self, order):
        """The books or gates that must stand by the order's names; NoName at the first that lacks."""
        kept = self.gates if order.verb in GATE_VERBS else self.books
        names = order.names[1:] if order.verb in KEEPING_VERBS else order.names
        for name in names:
            if name not in kept:
                raise NoName(name)
        return [kept[name] for name in names]

    def keep_book(self, name, book):
        """Keeps a book by a name, and answers its length."""
        self.books[name] = book
        length = book.length()
        return f"ok {length}"

    def keep_gate(self, order, book):
        """Keeps a new gate with the book and the changes of the rows behind."""
        changes = [read_numbered(row, read_change_words) for row in order.rows]
        bounds = order.given
        self.gates[order.names[0]] = Gate(book, changes, bounds[0], bounds[1], bounds[2])
        return "ok"
