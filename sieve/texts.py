"""Rules and books in writing: a rule is a row of words, a book a text of rows."""

from sieve.addresses import read_address, show_address
from sieve.bits import ADDRESS_BITS, beginning, bits_of
from sieve.books import MAIN, Book
from sieve.errors import NoAddress, NoRow
from sieve.rules import every, rule_of
from sieve.words import is_name, is_number, words_of

# The readers of single words and rows refuse as if the row stood alone;
# who reads many rows puts the row's own number in its place.
ALONE = 1

DEFAULT_WORDS = ("pass", "stop")
SINGLE_HEADS = ("pass", "stop", "back")
PAIR_WORDS = ("turn", "kind", "from", "fromdoor", "to", "todoor")
ADDRESS_WORDS = ("from", "to")


def read_number(word, greatest):
    """The number that the word writes; NoRow where it writes none up to the greatest."""
    if not is_number(word, greatest):
        raise NoRow(ALONE)
    return int(word)


def read_place(word):
    """The address that the word writes; NoRow where it writes none."""
    try:
        return read_address(word)
    except NoAddress:
        raise NoRow(ALONE) from None


def read_ends(word, read_end):
    """The stretch of one end or of two with `-` between, each as read_end reads it."""
    ends = [read_end(end) for end in word.split("-")]
    if len(ends) > 2 or ends[0] > ends[-1]:
        raise NoRow(ALONE)
    return (ends[0], ends[-1])


def read_numbers(word, greatest):
    """The stretch that `N` or `N-M` writes."""
    return read_ends(word, lambda end: read_number(end, greatest))


def read_addresses(word):
    """The stretch that `A`, `A-B` or `A/BITS` writes."""
    if "/" not in word:
        return read_ends(word, read_place)
    sides = word.partition("/")
    return beginning(read_place(sides[0]), read_number(sides[2], ADDRESS_BITS))


def pair_values(words, pair_words):
    """The second words of pairs by their first ones; NoRow where the words are no such pairs."""
    if len(words) % 2 == 1:
        raise NoRow(ALONE)
    told = {}
    for place in range(0, len(words), 2):
        word = words[place]
        if word not in pair_words or word in told:
            raise NoRow(ALONE)
        told[word] = words[place + 1]
    return told


def read_pairs(words, pair_words, whole_box):
    """The box that the pairs write; where a pair is not there, the stretch is that of the whole box."""
    told = pair_values(words, pair_words)
    stretches = []
    for word, whole in zip(pair_words, whole_box):
        if word not in told:
            stretches.append(whole)
        elif word in ADDRESS_WORDS:
            stretches.append(read_addresses(told[word]))
        else:
            stretches.append(read_numbers(told[word], whole[1]))
    return tuple(stretches)


def read_box(words):
    """The box of parcels that the pairs write."""
    return read_pairs(words, PAIR_WORDS, every())


def read_label_box(words):
    """The box of labels that the pairs write; a label has no turn."""
    return read_pairs(words, PAIR_WORDS[1:], every()[1:])


def read_words(words):
    """The tuple of the rule that the words write; NoRow where they write none."""
    if len(words) > 0 and words[0] in SINGLE_HEADS:
        return (words[0], read_box(words[1:]))
    if len(words) > 1 and words[0] == "call" and is_name(words[1]):
        return ("call", read_box(words[2:]), words[1])
    raise NoRow(ALONE)


def read_rule(row):
    """The tuple of the rule that the row writes; NoRow where it writes none."""
    return read_words(words_of(row))


def show_ends(stretch, show_end):
    """One end alone, or both with `-` between, each as show_end shows it."""
    if stretch[0] == stretch[1]:
        return show_end(stretch[0])
    return show_end(stretch[0]) + "-" + show_end(stretch[1])


def show_numbers(stretch):
    """The text of a stretch of numbers."""
    return show_ends(stretch, lambda end: str(end))


def show_addresses(stretch):
    """The text of a stretch of addresses."""
    bits = bits_of(stretch[0], stretch[1])
    # A single address is a beginning too, but is shown as this alone.
    if bits is None or bits == ADDRESS_BITS:
        return show_ends(stretch, show_address)
    return show_address(stretch[0]) + "/" + str(bits)


def show_rule(told):
    """The row of a rule's tuple."""
    words = [rule_of(told).head()]
    for word, stretch, whole in zip(PAIR_WORDS, told[1], every()):
        if stretch != whole:
            words.append(word)
            words.append(show_addresses(stretch) if word in ADDRESS_WORDS else show_numbers(stretch))
    return " ".join(words)


def rows_of(text):
    """The rows of a text that have a word, as tuples (number, words), all rows counted from 1."""
    rows = [(number, words_of(row)) for number, row in enumerate(text.split("\n"), start=1)]
    return [row for row in rows if row[1] != []]


def read_numbered(row, read):
    """What read tells of the words of a tuple (number, words); NoRow with this number."""
    try:
        return read(row[1])
    except NoRow:
        raise NoRow(row[0]) from None


def read_default(words):
    """The default that the words write; NoRow where they write none."""
    if len(words) != 2 or words[0] != "default" or words[1] not in DEFAULT_WORDS:
        raise NoRow(ALONE)
    return words[1]


def read_chain(words):
    """The name behind the word `chain`; NoRow where the words begin no chain."""
    if len(words) != 2 or not is_name(words[1]):
        raise NoRow(ALONE)
    return words[1]


def read_chains(rows):
    """The chains that the rows behind the default write."""
    rules = []
    chains = [(MAIN, rules)]
    for row in rows:
        if row[1][0] == "chain":
            rules = []
            chains.append((read_numbered(row, read_chain), rules))
        else:
            rules.append(read_numbered(row, read_words))
    return chains


def read_book_rows(rows, first):
    """The book that the tuples (number, words) write; NoRow with the first number where there is none."""
    if rows == []:
        raise NoRow(first)
    default = read_numbered(rows[0], read_default)
    return Book(default, read_chains(rows[1:]))


def read_book(text):
    """The book that the text writes; NoRow at the first row that can't stand where it is."""
    return read_book_rows(rows_of(text), ALONE)


def show_book(book):
    """The text of a book."""
    rows = ["default " + book.default]
    for name in book.chain_names():
        if name != MAIN:
            rows.append("chain " + name)
        rows.extend([show_rule(rule.told()) for rule in book.chain(name)])
    return "\n".join(rows)
