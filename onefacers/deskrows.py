"""Rows that a desk can be told: their words, and what each of them answers."""

from onefacers.beats import schedule
from onefacers.booktexts import read_book
from onefacers.causes import causes_of, lengths
from onefacers.copies import Copy
from onefacers.errors import NoMeeting, NoRow, NoText
from onefacers.keeping import all_keep
from onefacers.kinds import is_name
from onefacers.needs import need
from onefacers.rings import ring_of
from onefacers.rows import number_of
from onefacers.values import come_to, value_at
from onefacers.webtexts import read_web, web_text, who_of, who_text
from onefacers.whys import why_waits

# The words behind each first word. A, B and C are NAMES by which a book, a web and a copy are kept,
# N is any NAME, W a WHO, H a number from 1 on, T the text behind a line feed, WS none or more WHOS.
FORMS = {
    "book": (("N", "T"),),
    "web": (("N", "A", "T"),),
    "copy": (("N", "B"),),
    "twin": (("N", "C"),),
    "meet": (("C", "W"),),
    "all": (("C",),),
    "hear": (("C", "W", "WS"),),
    "pour": (("C", "C"),),
    "back": (("C", "W"),),
    "ready": (("C",),),
    "heap": (("C",),),
    "waits": (("C",),),
    "causes": (("C", "W"),),
    "length": (("C", "W"),),
    "why": (("C", "W"),),
    "text": (("C",),),
    "value": (("C", "N"),),
    "need": (("B", "meet", "W"), ("B", "end", "N")),
    "come": (("B", "N"),),
    "beats": (("B", "H"),),
    "sound": (("B",),),
    "keeps": (("A",),),
    "same": (("C", "C"),),
}


def _who_in(word):
    """The WHO that a word is, or None."""
    try:
        return who_of(word)
    except NoText:
        return None


def _thing_in(part, word):
    """What a word tells as this part of a form, or None."""
    if part == "T":
        return word
    if part == "W":
        return _who_in(word)
    if part == "H":
        number = number_of(word)
        return None if number == 0 else number
    if part in ("A", "B", "C", "N"):
        return word if is_name(word) else None
    return word if word == part else None


def _parts_in(form, words):
    """Tuples of each part of a form and what is told as it; None where these words are not of this form."""
    if form[-1] == "WS":
        form = form[:-1] + ("W",) * (len(words) - len(form) + 1)
    if len(form) != len(words):
        return None
    parts = [(part, _thing_in(part, word)) for part, word in zip(form, words)]
    return None if None in [thing for _, thing in parts] else parts


def parts_of(row):
    """The first word of a row, and tuples of each part behind it and what is told as it."""
    if not isinstance(row, str):
        raise NoRow("a row is a text")
    head, feed, text = row.partition("\n")
    words = head.split(" ")
    if feed != "":
        words.append(text)
    for form in FORMS.get(words[0], ()):
        # Only a text stands behind a line feed, and a text stands nowhere else.
        if (form[-1] == "T") == (feed != ""):
            parts = _parts_in(form, words[1:])
            if parts is not None:
                return (words[0], parts)
    raise NoRow("no row that a desk can be told")


def _whos_text(whos):
    return " ".join([who_text(who) for who in whos])


def _yes(truth):
    return "yes" if truth else "no"


def _book(text):
    return read_book(text)


def _web(book, text):
    # Kept with the book with which it was told, whatever that one's name stands for later.
    return (book, read_web(book.kinds(), text))


def _copy(kept):
    book, web = kept
    return Copy(book, web)


def _twin(copy):
    return copy.copied()


def _meet(copy, who):
    return _whos_text(copy.meet(who))


def _all(copy):
    return _whos_text(copy.meet_all())


def _hear(copy, *whos):
    return _whos_text(copy.hear(whos))


def _pour(copy, other):
    return _whos_text(copy.pour(other))


def _back(copy, who):
    copy.back(who)
    return "ok"


def _ready(copy):
    return _whos_text([left for left, _ in copy.ready()])


def _heap(copy):
    return str(copy)


def _waits(copy):
    return _whos_text(copy.waits())


def _causes(copy, who):
    return _whos_text(causes_of(copy.book(), copy.first(), copy.heap(), who))


def _length(copy, who):
    found = lengths(copy.book(), copy.first(), copy.heap())
    if who not in found:
        raise NoMeeting(who)
    return str(found[who])


def _why(copy, who):
    word, chain = why_waits(copy.book(), copy.web(), who)
    return f"{word} {_whos_text(chain)}"


def _text(copy):
    return web_text(copy.web())


def _value(copy, name):
    return value_at(copy.web(), name)


def _need(kept, word, goal):
    book, web = kept
    names = need(book, web, (word, goal))
    return "never" if names is None else _whos_text(names)


def _come(kept, name):
    book, web = kept
    text, _ = come_to(book, web, name)
    return text


def _beats(kept, hands):
    book, web = kept
    return str(len(schedule(book, web, hands=hands)))


def _sound(kept):
    _, web = kept
    return _yes(ring_of(web) is None)


def _keeps(book):
    return _yes(all_keep(book))


def _same(copy, other):
    return _yes(copy == other)


# What is made by these rows is kept in a drawer; all others are answered.
DRAWERS = {"book": "A", "web": "B", "copy": "C", "twin": "C"}
MAKERS = {"book": _book, "web": _web, "copy": _copy, "twin": _twin}

ANSWERS = {
    "meet": _meet,
    "all": _all,
    "hear": _hear,
    "pour": _pour,
    "back": _back,
    "ready": _ready,
    "heap": _heap,
    "waits": _waits,
    "causes": _causes,
    "length": _length,
    "why": _why,
    "text": _text,
    "value": _value,
    "need": _need,
    "come": _come,
    "beats": _beats,
    "sound": _sound,
    "keeps": _keeps,
    "same": _same,
}
