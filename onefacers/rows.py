"""Rows of words in a text, and numbers in figures."""

from onefacers.errors import NoText

MOST_FIGURES = 30


def rows_text(rows):
    """The text of rows, each a list of words: one blank between words, a line feed behind each row."""
    return "".join([" ".join(words) + "\n" for words in rows])


def rows_of(text):
    """The rows of a text, each a list of words; what stands behind the last line feed is none."""
    if not isinstance(text, str):
        raise NoText("only a text can be read")
    return [row.split(" ") for row in text.split("\n")[:-1]]


def number_of(text):
    """The number that is so written in figures, without noughts ahead; None where there is none."""
    if not text.isascii() or not text.isdigit() or len(text) > MOST_FIGURES:
        return None
    if text[0] == "0" and text != "0":
        return None
    return int(text)
