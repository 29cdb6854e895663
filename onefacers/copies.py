"""Copies of a web, at which meetings are done, heard of and taken back."""

from onefacers.benches import Bench
from onefacers.errors import Caused, NoHeap, NoMeeting, TooMany, Unlike
from onefacers.heaps import MOST_MEETINGS, check_limit, do_all, is_list_of_whos, worked_off
from onefacers.kinds import is_who
from onefacers.webtexts import who_text


class Copy:
    """A book, a first web, a heap that stands, and WHOS that wait."""

    def __init__(self, book, web):
        self._bench = Bench(book, web)
        self._book = book
        self._first = web
        # In the order in which they were done, so that they can be done again.
        self._stands = {}
        self._waits = {}

    def book(self):
        """The book by which meetings are done."""
        return self._book

    def first(self):
        """The web with nothing done."""
        return self._first

    def web(self):
        """The first web behind what stands."""
        return self._bench.web()

    def heap(self):
        """What stands, rising."""
        return sorted(self._stands)

    def waits(self):
        """What waits, rising."""
        return sorted(self._waits)

    def ready(self):
        """Tuples of left and right of those that are ready, rising."""
        return self._bench.pairs()

    def meet(self, who):
        """Does a meeting that is ready; what stands now and didn't, rising."""
        if not is_who(who) or not self._bench.is_ready(who):
            raise NoMeeting(who)
        if len(self._stands) == MOST_MEETINGS:
            raise TooMany(MOST_MEETINGS)
        many = len(self._stands)
        self._do(who)
        self._do_what_waits()
        return self._told_behind(many)

    def meet_all(self, *, limit=MOST_MEETINGS):
        """Does all that is ready, till nothing is; what stands now and didn't, rising."""
        check_limit(limit)
        many = len(self._stands)
        # On a bench of its own: where more would stand than the limit tells, nothing was done.
        bench = Bench(self._book, self._first)
        for who in list(self._stands):
            bench.meet(who)
        row = do_all(bench, limit - many)
        if row is None:
            raise TooMany(limit)
        self._bench = bench
        for who in row:
            self._stand(who)
        return self._told_behind(many)

    def hear(self, names):
        """Lets WHOS wait that don't stand, and does what can be done; what stands now and didn't, rising."""
        if not is_list_of_whos(names):
            raise NoHeap(None)
        many = len(self._stands)
        for who in names:
            if who not in self._stands:
                self._waits[who] = True
        self._do_what_waits()
        return self._told_behind(many)

    def pour(self, other):
        """Hears what stands at another copy; what stands now and didn't, rising."""
        self._check_like(other)
        return self.hear(other.heap())

    def back(self, who):
        """Takes a meeting back that stands and is a cause of none other that does."""
        if not is_who(who) or who not in self._stands:
            raise NoMeeting(who)
        bench = Bench(self._book, self._first)
        row, left = worked_off(bench, [one for one in self._stands if one != who])
        # Those that can't be done without it are just those of which it is a cause.
        if len(left) > 0:
            raise Caused(min(left))
        self._bench = bench
        self._stands = {one: True for one in row}

    def common(self, other):
        """What stands at both of two copies, rising."""
        self._check_like(other)
        stands = {who: True for who in other.heap()}
        return [who for who in self.heap() if who in stands]

    def copied(self):
        """A copy alike, on which nothing that is done here has bearing."""
        twin = Copy(self._book, self._first)
        for who in list(self._stands):
            twin._do(who)
        twin._waits = {who: True for who in self._waits}
        return twin

    def __eq__(self, other):
        return (isinstance(other, Copy) and self._book == other._book and self._first == other._first
                and self._stands == other._stands and self._waits == other._waits)

    def __len__(self):
        return len(self._stands)

    def __str__(self):
        return " ".join([who_text(who) for who in self.heap()])

    def _check_like(self, other):
        if not isinstance(other, Copy) or self._book != other.book() or self._first != other.first():
            raise Unlike("this is no copy of an equal book and an equal first web")

    def _stand(self, who):
        self._stands[who] = True
        self._waits.pop(who, None)

    def _do(self, who):
        self._bench.meet(who)
        self._stand(who)

    def _do_what_waits(self):
        """Does those that wait and are ready, each time the least, as long as fewer than 200 stand."""
        while len(self._stands) < MOST_MEETINGS:
            can_be_done = [who for who in self._waits if self._bench.is_ready(who)]
            if len(can_be_done) == 0:
                return
            self._do(min(can_be_done))

    def _told_behind(self, many):
        """What stands now, rising, but for so many that were done first."""
        return sorted(list(self._stands)[many:])
