"""What webs and books both ask of the names that are handed in."""

SMALL_LETTERS = "abcdefghijklmnopqrstuvwxyz"


def is_small_word(text, least, most):
    """True where the text is of least to most small letters and of no other sign."""
    return least <= len(text) <= most and all([sign in SMALL_LETTERS for sign in text])
