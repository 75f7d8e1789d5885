"""Reading a parcel by a book: rule by rule, the first that fits, chain within chain."""

from sieve.books import MAIN
from sieve.rules import Call, Word


def read_through(book, parcel):
    """The path and the word of a parcel, as a tuple."""
    looked = []
    # The places where the reading goes on, the innermost chain's last.
    places = [(MAIN, 0)]
    while places != []:
        place = places.pop()
        rule = book.rule_at(place[0], place[1])
        if rule is None:
            continue
        fits = rule.fits(parcel)
        looked.append((place[0], place[1], fits))
        if fits and isinstance(rule, Word):
            return (looked, rule.word)
        # A back that fits leaves its chain without a place, so what called it goes on.
        if not fits or isinstance(rule, Call):
            places.append((place[0], place[1] + 1))
        if fits and isinstance(rule, Call):
            places.append((rule.name, 0))
    return (looked, book.default)


def word_of(book, parcel):
    """The word of a parcel, "pass" or "stop"."""
    return read_through(book, parcel)[1]


def path(book, parcel):
    """The rules that are looked at, in order, as tuples (name, index, fits)."""
    return read_through(book, parcel)[0]
