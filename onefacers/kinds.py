"""NAMES, LOTS and WHOS, and the kinds of facers."""

from onefacers.errors import NoKind, NoKinds

FACE = 0
MOST_KINDS = 12
MOST_HANDS = 6
MOST_LETTERS = 8
LAST_PLACE = 11


def is_whole(thing):
    """Whether a thing is a whole number; True and False are none."""
    return isinstance(thing, int) and not isinstance(thing, bool)


def is_name(thing):
    """Whether a thing is a text of one to eight small letters."""
    if not isinstance(thing, str) or not 1 <= len(thing) <= MOST_LETTERS:
        return False
    return all(["a" <= sign <= "z" for sign in thing])


def is_lots(thing):
    """Whether a thing tells the lots of a kind's hands."""
    if not isinstance(thing, tuple) or len(thing) > MOST_HANDS:
        return False
    fresh = 0
    for lot in thing:
        if not is_whole(lot) or not 0 <= lot <= fresh:
            return False
        fresh = max(fresh, lot + 1)
    return True


def is_place(thing):
    """Whether a thing is a place, as it stands in a WHO."""
    return is_whole(thing) and 0 <= thing <= LAST_PLACE


def is_who(thing):
    """Whether a thing is a NAME with none or more places behind it, in a tuple."""
    if not isinstance(thing, tuple) or len(thing) == 0:
        return False
    return is_name(thing[0]) and all([is_place(part) for part in thing[1:]])


def _check_table(table):
    if not isinstance(table, dict):
        raise NoKinds("table", None)
    if len(table) > MOST_KINDS:
        raise NoKinds("many", None)
    for word, lots in table.items():
        if not is_name(word):
            raise NoKinds("name", word)
        if not is_lots(lots):
            raise NoKinds("lots", word)


class Kinds:
    """The kinds of facers: of each NAME the lots of its hands."""

    def __init__(self, table):
        _check_table(table)
        self._table = {word: table[word] for word in sorted(table)}

    def words(self):
        """The kinds' NAMES, rising."""
        return list(self._table)

    def has(self, thing):
        """Whether a thing is a kind's NAME."""
        return is_name(thing) and thing in self._table

    def hands(self, word):
        """How many hands a kind has."""
        return len(self.lots(word))

    def lots(self, word):
        """The lots of a kind's hands, in order."""
        if not self.has(word):
            raise NoKind(word)
        return self._table[word]

    def __eq__(self, other):
        return isinstance(other, Kinds) and self._table == other._table

    def __len__(self):
        return len(self._table)

    def __repr__(self):
        return f"Kinds({self._table!r})"
