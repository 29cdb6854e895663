"""A bench: a web on which meetings are done, one behind another.

Each tie keeps, from each of its ends on, the meetings at whose joints it was joined. While a
meeting is done, a hand that becomes a joint has two sides: the hand itself, at which the tie
is that it had, and the same with the number below 0, at which the rule's tie is.
"""

from onefacers.books import Book
from onefacers.ends import is_outer, ties_of
from onefacers.errors import Unlike
from onefacers.kinds import FACE
from onefacers.webs import Web


def _placed(end, left, right):
    """Where the end of a rule is on the bench; an OUTER one is the rule's side of a joint."""
    place, number = end
    if not is_outer(end):
        return (left + place, number)
    return (left if number.startswith("l") else right, -int(number[1:]))


class Bench:
    """A web by a book of equal Kinds, on which meetings are done; what is asked for has to be there."""

    def __init__(self, book, web):
        if not isinstance(book, Book) or not isinstance(web, Web) or book.kinds() != web.kinds():
            raise Unlike("these are no book and web of equal Kinds")
        self._book = book
        self._facers = {who: word for who, word in web.facers()}
        self._gone = {}
        self._rights = {}
        self._lefts = {}
        self._ties = {}
        for one, other in web.ties():
            self._tie(one, other, ())

    def kinds(self):
        """The Kinds of its facers."""
        return self._book.kinds()

    def has(self, who):
        """Whether a facer of this WHO is there."""
        return who in self._facers

    def has_met(self, who):
        """Whether a facer of this WHO was there and met another one."""
        return who in self._gone

    def kind(self, who):
        """The NAME of a facer's kind."""
        return self._facers[who]

    def has_end(self, end):
        """Whether an end is in its ties."""
        return end in self._ties

    def mate(self, end):
        """The end to which an end is tied."""
        return self._ties[end][0]

    def trail(self, end):
        """The meetings at whose joints an end's tie is joined, from this end on."""
        return list(self._ties[end][1])

    def pairs(self):
        """Tuples of left and right of those that are ready, rising."""
        return sorted(self._rights.items())

    def is_ready(self, who):
        """Whether a meeting of this WHO is ready."""
        return who in self._rights

    def left_of(self, who):
        """The left one of two that are ready, whichever of them is asked for; None if this one isn't."""
        if who in self._rights:
            return who
        return self._lefts.get(who)

    def right_of(self, left):
        """The right one of a meeting that is ready."""
        return self._rights[left]

    def meet(self, left):
        """Does a meeting that is ready."""
        right = self._rights.pop(left)
        del self._lefts[right]
        _, _, made, ties = self._book.rule(self._facers[left], self._facers[right])
        for place, word in enumerate(made):
            self._facers[left + (place,)] = word
        for one, other in ties:
            self._tie(_placed(one, left, right), _placed(other, left, right), ())
        for who in (left, right):
            for number in range(1, self.kinds().hands(self._facers[who]) + 1):
                self._join(left, who, number)
            del self._ties[(who, FACE)]
            del self._facers[who]
            self._gone[who] = True

    def web(self):
        """The web behind what was done."""
        mates = {end: tie[0] for end, tie in self._ties.items()}
        return Web(self.kinds(), list(self._facers.items()), ties_of(mates))

    def _join(self, meeting, who, number):
        """Joins the tie that a hand had and the rule's tie of its OUTER end."""
        near, way = self._ties.pop((who, number))
        far, onward = self._ties.pop((who, -number))
        # A tie that leads from the one side of the joint to the other has no end: it is dropped.
        if near != (who, -number):
            self._tie(near, far, way[::-1] + (meeting,) + onward)

    def _tie(self, one, other, way):
        self._ties[one] = (other, way)
        self._ties[other] = (one, way[::-1])
        if one[1] == FACE and other[1] == FACE:
            self._face(one[0], other[0])

    def _face(self, one, other):
        """Keeps two that face each other as ready, if their kinds have a rule."""
        rule = self._book.rule(self._facers[one], self._facers[other])
        if rule is None:
            return
        left, right = min(one, other), max(one, other)
        # Of unlike kinds the left one is of the kind that the rule tells first, whatever the WHOS.
        if self._facers[left] != rule[0]:
            left, right = right, left
        self._rights[left] = right
        self._lefts[right] = left
