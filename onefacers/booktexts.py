"""Books as texts."""

from onefacers.books import Book
from onefacers.ends import is_outer
from onefacers.errors import NoBook, NoKinds, NoText
from onefacers.kinds import Kinds
from onefacers.rows import number_of, rows_of, rows_text


def _end_text(end):
    """A made one's end as its place, a colon and its number; an OUTER one as its name."""
    who, number = end
    if is_outer(end):
        return number
    return f"{who[0]}:{number}"


def _end_of(text):
    """What could be the end that is so written; a book refuses it if it's none."""
    place, colon, number = text.partition(":")
    if colon == "":
        return ((), text)
    return ((number_of(place),), number_of(number))


def book_text(book):
    """A book's kinds, and its rules, each with its ties, a row for each."""
    kinds = book.kinds()
    rows = [["kind", word] + [str(lot) for lot in kinds.lots(word)] for word in kinds.words()]
    for left, right, made, ties in book.rules():
        rows.append(["rule", left, right] + list(made))
        rows.extend([["tie", _end_text(one), _end_text(other)] for one, other in ties])
    return rows_text(rows)


def _told(rows):
    """What could be a table of kinds, and rules, as these rows tell them."""
    table = {}
    rules = []
    for words in rows:
        if words[0] == "kind" and len(words) > 1:
            table[words[1]] = tuple([number_of(lot) for lot in words[2:]])
        elif words[0] == "rule" and len(words) > 2:
            rules.append((words[1], words[2], words[3:], []))
        elif words[0] == "tie" and len(words) == 3 and len(rules) > 0:
            rules[-1][3].append((_end_of(words[1]), _end_of(words[2])))
        else:
            raise NoText("no row of a book's text")
    return (table, rules)


def read_book(text):
    """The book of which this is the text."""
    table, rules = _told(rows_of(text))
    try:
        book = Book(Kinds(table), rules)
    except (NoKinds, NoBook):
        raise NoText("these rows tell no book") from None
    # Rows out of order, a line feed too few, and the like: only the text itself is one.
    if book_text(book) != text:
        raise NoText("a book's text is written otherwise")
    return book
