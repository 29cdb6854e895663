"""Webs, WHOS and ends as texts."""

from onefacers.errors import NoText, NoWeb
from onefacers.kinds import is_who
from onefacers.rows import number_of, rows_of, rows_text
from onefacers.webs import Web


def who_text(who):
    """A WHO as its parts with points between."""
    return ".".join([str(part) for part in who])


def end_text(end):
    """An end as its WHO, a colon, and its number or NAME."""
    who, number = end
    return f"{who_text(who)}:{number}"


def who_of(text):
    """The WHO that is so written."""
    if not isinstance(text, str):
        raise NoText("only a text can be read")
    parts = text.split(".")
    who = (parts[0],) + tuple([number_of(part) for part in parts[1:]])
    if not is_who(who):
        raise NoText("no WHO is written so")
    return who


def _end_of(text):
    """What could be the end that is so written; a web refuses it if it's none."""
    head, _, tail = text.partition(":")
    if head == "":
        return ((), tail)
    return (who_of(head), number_of(tail))


def web_text(web):
    """A web's facers and ties, a row for each."""
    rows = [["facer", who_text(who), word] for who, word in web.facers()]
    rows.extend([["tie", end_text(one), end_text(other)] for one, other in web.ties()])
    return rows_text(rows)


def read_web(kinds, text):
    """The web of these Kinds of which this is the text."""
    facers = []
    ties = []
    for words in rows_of(text):
        if len(words) != 3:
            raise NoText("no row of a web's text")
        if words[0] == "facer":
            facers.append((who_of(words[1]), words[2]))
        elif words[0] == "tie":
            ties.append((_end_of(words[1]), _end_of(words[2])))
        else:
            raise NoText("no row of a web's text")
    try:
        web = Web(kinds, facers, ties)
    except NoWeb:
        raise NoText("these rows tell no web") from None
    # Rows out of order, a line feed too few, and the like: only the text itself is one.
    if web_text(web) != text:
        raise NoText("a web's text is written otherwise")
    return web
