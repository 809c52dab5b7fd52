"""The lines of journals: how deeds are written and read."""

from trustsorted.signs import FIGURES

EMPTY_ROW = '""'


def row_text(row):
    """How a row is written."""
    return EMPTY_ROW if row == "" else row


def rows_text(rows):
    """How rows are written beside one another."""
    return " ".join([row_text(row) for row in rows])


def read_row(word):
    """The row that a word tells."""
    return "" if word == EMPTY_ROW else word


def read_words(line):
    """The words of a line, None if any value is no string of words parted by one blank."""
    if not isinstance(line, str) or "\n" in line:
        return None
    words = line.split(" ")
    return None if "" in words else words


def is_figures(word):
    """Whether a word is a number without zeros ahead."""
    return all([sign in FIGURES for sign in word]) and (word == "0" or word[0] != "0")


def read_deed(words):
    """The deed that the words of a line tell, as it is called with its arguments; None if they tell none."""
    many = len(words)
    if words[0] == "add" and many >= 2:
        return ("add", " ".join(words[1:]))
    if words[0] == "put" and many >= 3 and is_figures(words[1]):
        return ("put", int(words[1]), " ".join(words[2:]))
    if words[0] == "drop" and many == 2 and is_figures(words[1]):
        return ("drop", int(words[1]))
    if words[0] == "see" and many >= 4:
        return ("see", words[1], tuple([read_row(word) for word in words[2:]]))
    return None
