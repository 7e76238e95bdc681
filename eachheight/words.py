"""Words of texts and of commands (points 20 and 21)."""

DIGITS = "0123456789"


def is_number(word, length):
    """Return whether a word is an integer from 0 on, with at most this many digits and no leading zeros."""
    if not 1 <= len(word) <= length or not all([letter in DIGITS for letter in word]):
        return False
    return word == "0" or word[0] != "0"


def joined(things):
    """Return the things as words with single blanks between them."""
    return " ".join([str(thing) for thing in things])
