"""Which rules of a book are reached, which are needed, and the book without the others."""

from sieve.books import MAIN, Book, called_names
from sieve.boxes import corner
from sieve.comparing import parting
from sieve.errors import NoRule, Reached
from sieve.looking import looked, looked_by
from sieve.rows import unfolded
from sieve.rules import every


def first_parcels(book):
    """The parcel that is told for each rule that is reached, by the rule's (name, index)."""
    rows = unfolded(book)
    parcels = {}
    for box, way, word in looked(rows, book.default, every()):
        for number, fits in way:
            rule = rows[number][:2]
            if fits and rule not in parcels:
                parcels[rule] = corner(box)
    return parcels


def reached(book):
    """By which parcel each rule is reached, as tuples (name, index, parcel or None)."""
    parcels = first_parcels(book)
    told = []
    for name in book.chain_names():
        for index, rule in enumerate(book.chain(name)):
            told.append((name, index, parcels.get((name, index))))
    return told


def asked_rule(book, name, index):
    """The rule that is asked for by its chain's name and its index there, or NoRule."""
    rules = book.chain(name) if name in book.chain_names() else []
    if index < 0 or index >= len(rules):
        raise NoRule(f"the book has no rule {name} {index}")
    return rules[index]


def cover(book, name, index):
    """What the looker tells of the box of a rule that is never reached; Reached for another rule."""
    rule = asked_rule(book, name, index)
    parcel = first_parcels(book).get((name, index))
    if parcel is not None:
        raise Reached(parcel)
    return looked_by(book, rule.box)


def rules_but(rules, index):
    """The tuples of the rules but for the one at the index."""
    return [rule.told() for place, rule in enumerate(rules) if place != index]


def without(book, name, index):
    """The book but for one rule."""
    asked_rule(book, name, index)
    chains = []
    for chain_name in book.chain_names():
        chains.append((chain_name, rules_but(book.chain(chain_name), index if chain_name == name else None)))
    return Book(book.default, chains)


def needed(book, name, index):
    """A parcel that has another word without the rule, or None."""
    return parting(book, without(book, name, index))


def shorter(book):
    """The book of the rules that are reached, and of main and the chains that these call."""
    parcels = first_parcels(book)
    kept = {}
    called = {MAIN: True}
    for name in book.chain_names():
        kept[name] = [rule for index, rule in enumerate(book.chain(name)) if (name, index) in parcels]
        for other in called_names(kept[name]):
            called[other] = True
    chains = [(name, [rule.told() for rule in kept[name]]) for name in kept if name in called]
    return Book(book.default, chains)
