"""What the package refuses with, one class for each kind of refusal."""


class FacerError(ValueError):
    """What was handed in is not what the document tells."""


class NoKinds(FacerError):
    """No kinds: what is wrong, and at which key."""

    def __init__(self, what, who):
        super().__init__(f"no kinds: {what}")
        self.what = what
        self.who = who


class NoWeb(FacerError):
    """No web: what is wrong, and at which number, WHO or end."""

    def __init__(self, what, who):
        super().__init__(f"no web: {what}")
        self.what = what
        self.who = who


class NoBook(FacerError):
    """No book: what is wrong, and in which rule."""

    def __init__(self, what, number):
        super().__init__(f"no book: {what}")
        self.what = what
        self.number = number


class NoHeap(FacerError):
    """No heap: who could not be done, or None where it isn't a list of WHOS."""

    def __init__(self, who):
        super().__init__("no heap")
        self.who = who


class NoText(FacerError):
    """No text of what was to be read."""


class NoWish(FacerError):
    """No wish that the web can have."""


class NoCount(FacerError):
    """No number of the kind that is wanted."""


class NoRow(FacerError):
    """No row that a desk can be told."""


class NoOne(LookupError):
    """No facer of the web has this WHO."""

    def __init__(self, who):
        super().__init__("no facer has this WHO")
        self.who = who


class NoEnd(LookupError):
    """No such end."""

    def __init__(self, end):
        super().__init__("no such end")
        self.end = end


class NoKind(KeyError):
    """No kind has this NAME."""

    def __init__(self, word):
        super().__init__("no kind has this NAME")
        self.word = word


class NoRule(KeyError):
    """These two kinds have no rule."""

    def __init__(self, pair):
        super().__init__("these two kinds have no rule")
        self.pair = pair


class NoSuch(KeyError):
    """Nothing is kept by this name."""

    def __init__(self, who):
        super().__init__("nothing is kept by this name")
        self.who = who


class NoMeeting(RuntimeError):
    """No such meeting is ready, or stands."""

    def __init__(self, who):
        super().__init__("no such meeting")
        self.who = who


class Caused(RuntimeError):
    """A meeting is a cause of another one that stands."""

    def __init__(self, by):
        super().__init__("it is a cause of another meeting")
        self.by = by


class Unlike(RuntimeError):
    """Two things that do not belong together."""


class TooMany(ArithmeticError):
    """More than the limit."""

    def __init__(self, limit):
        super().__init__("more than the limit")
        self.limit = limit
