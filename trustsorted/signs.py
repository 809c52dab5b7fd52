"""Signs and words, as they stand in texts."""

LETTERS = "abcdefghijklmnopqrstuvwxyz"
CAPITALS = "ABCDEFGHIJKLMNOPQRSTUVWXYZ"
FIGURES = "0123456789"
OTHERS = ("-", "_", ".")


def is_sign(word):
    """Whether a string is a sign that a house can have."""
    if len(word) != 1:
        return False
    return word in LETTERS or word in CAPITALS or word in FIGURES or word in OTHERS


def is_word(word):
    """Whether a string is a word."""
    return 1 <= len(word) <= 8 and all([letter in LETTERS for letter in word])
