"""The looker: a box of parcels followed along rows, and parted where only some of it fits."""

from sieve.boxes import common, rests
from sieve.rows import ended, step_from, unfolded


def pieces(box, other):
    """The box as a row with the other box parts it: tuples (box, fits), in the order in which they are followed."""
    both = common(box, other)
    if both is None:
        return [(box, False)]
    if both == box:
        return [(box, True)]
    return [(both, True)] + [(rest, False) for rest in rests(box, other)]


def looked(rows, default, box):
    """The boxes into which rows part a box, as tuples (box, way, word)."""
    told = []
    # What is still to be followed, the next one last: (box, its way up to here, where it goes on).
    waiting = [(box, [], 0)]
    while waiting != []:
        place = waiting.pop()
        step = place[2]
        word = ended(rows, default, step)
        if word is not None:
            told.append((place[0], place[1], word))
            continue
        row = rows[step]
        for piece, fits in reversed(pieces(place[0], row[2])):
            waiting.append((piece, place[1] + [(step, fits)], step_from(row, fits)))
    return told


def looked_by(book, box):
    """What the looker tells of a box along the rows of a book."""
    return looked(unfolded(book), book.default, box)
