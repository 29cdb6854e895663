"""A desk: books, webs and copies by NAMES, and rows of words by which they are made and asked."""

from onefacers.deskrows import ANSWERS, DRAWERS, MAKERS, parts_of
from onefacers.errors import NoRow, NoSuch
from onefacers.kinds import is_name


class Desk:
    """Keeps books, webs and copies by NAMES, and answers rows."""

    def __init__(self):
        # A web is kept as a tuple of the book with which it was told and the web.
        self._drawers = {"A": {}, "B": {}, "C": {}}
        self._answered = 0
        self._log = []

    def say(self, row):
        """The answer to a row."""
        word, parts = parts_of(row)
        things = [self._thing(part, thing) for part, thing in parts]
        if word in MAKERS:
            name, *rest = things
            make = MAKERS[word]
            self._drawers[DRAWERS[word]][name] = make(*rest)
            answer = "ok"
        else:
            told = ANSWERS[word]
            answer = told(*things)
        self._answered += 1
        return answer

    def play(self, rows):
        """The answers to rows; where one is refused, all that is kept is as it was."""
        if not isinstance(rows, (list, tuple)):
            raise NoRow("a playing is of a list of rows")
        self._log.append(("begin", self._answered))
        kept = self._drawers
        self._drawers = self._drawers_alike()
        try:
            answers = [self.say(row) for row in rows]
            # None was refused: what they made is kept.
            kept = self._drawers
        finally:
            self._drawers = kept
            self._log.append(("end", self._answered))
        return answers

    def names(self):
        """The NAMES of books, of webs and of copies, each a rising list."""
        return (sorted(self._drawers["A"]), sorted(self._drawers["B"]), sorted(self._drawers["C"]))

    def copy(self, name):
        """A copy like the one that is kept by a name."""
        if not is_name(name) or name not in self._drawers["C"]:
            raise NoSuch(name)
        return self._drawers["C"][name].copied()

    def log(self):
        """Of each playing its begin and its end, and how many rows had been answered by then."""
        return list(self._log)

    def _thing(self, part, thing):
        """What is told by a part of a row: what is kept by a name, or what the row tells itself."""
        if part not in self._drawers:
            return thing
        if thing not in self._drawers[part]:
            raise NoSuch(thing)
        return self._drawers[part][thing]

    def _drawers_alike(self):
        copies = self._drawers["C"]
        return {
            "A": dict(self._drawers["A"]),
            "B": dict(self._drawers["B"]),
            "C": {name: copies[name].copied() for name in copies},
        }
