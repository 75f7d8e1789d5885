"""The words of a row, and whether a word writes a name or a number."""

FIGURES = "0123456789"
LETTERS = "abcdefghijklmnopqrstuvwxyz"
MOST_LETTERS = 12


def words_of(row):
    """The words of a row; a `#` and what follows it is no part of it."""
    return [word for word in row.partition("#")[0].split(" ") if word != ""]


def is_name(word):
    """Whether the word writes a name."""
    # isalpha and islower take letters beyond a to z too.
    return 1 <= len(word) and len(word) <= MOST_LETTERS and all([sign in LETTERS for sign in word])


def is_number(word, greatest):
    """Whether the word writes a number, not above the greatest and with no nought ahead."""
    # The length is looked at first, so that no long row of figures is ever read as a number.
    if word == "" or len(word) > len(str(greatest)):
        return False
    # isdigit takes signs beyond the ten figures too.
    if not all([sign in FIGURES for sign in word]):
        return False
    if word[0] == "0" and word != "0":
        return False
    return int(word) <= greatest
