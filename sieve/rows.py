"""Books unfolded as rows: tuples (name, index, box, yes, no), and a parcel's way along them."""

from sieve.books import MAIN
from sieve.boxes import has
from sieve.rules import Back, Call, Word


def yes_of(rule, number, end):
    """Where a row goes on if its rule fits; end is the number behind all rows of its chain."""
    if isinstance(rule, Word):
        return rule.word
    if isinstance(rule, Back):
        return end
    return number + 1


def no_of(book, rule, number):
    """The number where a row goes on if its rule does not fit."""
    if isinstance(rule, Call):
        return number + 1 + book.length_of(rule.name)
    return number + 1


def unfolded(book):
    """The rows of a book's main, each called chain behind its call."""
    rows = []
    # What is still to be unfolded, the innermost chain's last: (name, index, number behind the chain).
    places = [(MAIN, 0, book.length())]
    while places != []:
        place = places.pop()
        rule = book.rule_at(place[0], place[1])
        if rule is None:
            continue
        number = len(rows)
        no = no_of(book, rule, number)
        rows.append((place[0], place[1], rule.box, yes_of(rule, number, place[2]), no))
        places.append((place[0], place[1] + 1, place[2]))
        if isinstance(rule, Call):
            places.append((rule.name, 0, no))
    return rows


def ended(rows, default, step):
    """The word with which a way ends at a step, or None where the step is the number of a row."""
    if isinstance(step, str):
        return step
    return None if step < len(rows) else default


def step_from(row, fits):
    """Where it goes on from a row: a word, or a number."""
    return row[3] if fits else row[4]


def walk(rows, default, parcel):
    """The way of a parcel along rows, as a list of tuples (number, fits), and its word."""
    way = []
    step = 0
    while ended(rows, default, step) is None:
        row = rows[step]
        fits = has(row[2], parcel)
        way.append((step, fits))
        step = step_from(row, fits)
    return (way, ended(rows, default, step))
