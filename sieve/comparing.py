"""Two books compared: looked at jointly, box by box."""

from sieve.boxes import corner
from sieve.looking import looked, looked_by
from sieve.rows import unfolded
from sieve.rules import every


def joint(one, other):
    """The boxes that two books tell jointly, as tuples (box, way, word, other way, other word)."""
    rows = unfolded(other)
    told = []
    for box, way, word in looked_by(one, every()):
        for piece, other_way, other_word in looked(rows, other.default, box):
            # A way of the first book may go for more than one piece, and each has a list of its own.
            told.append((piece, list(way), word, other_way, other_word))
    return told


def parting(one, other):
    """A parcel for which the books have unlike words, or None where there is none."""
    for box, way, word, other_way, other_word in joint(one, other):
        if word != other_word:
            return corner(box)
    return None


def alike(one, other):
    """Whether the books have the same word for every parcel."""
    return parting(one, other) is None
