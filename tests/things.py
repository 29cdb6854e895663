"""What several tests hand in: kinds, and things of any kind."""

from onefacers.kinds import Kinds


class Touchy:
    """Can be neither compared, hashed, measured nor shown."""

    def __eq__(self, other):
        raise AssertionError("compared")

    def __hash__(self):
        raise AssertionError("hashed")

    def __len__(self):
        raise AssertionError("measured")

    def __bool__(self):
        raise AssertionError("tested")

    def __iter__(self):
        raise AssertionError("iterated")

    def __repr__(self):
        raise AssertionError("shown")

    def __str__(self):
        raise AssertionError("shown")


class Agreeing:
    """Is equal to everything."""

    def __eq__(self, other):
        return True

    def __hash__(self):
        return hash(("a",))


def looped():
    """A list that holds itself."""
    row = []
    row.append(row)
    return row


def odd_things():
    """Things of many kinds, none of which is a NAME, a WHO, an end, Kinds or a Web."""
    return [
        None, True, False, 0, 1, -1, 12, 10 ** 29, "", "A", "abcdefghi", "a1", "a\n", " a", "a.3", "\u00e4", "\u0430",
        "a.", ".", ":", "l1", b"a", b"", (), (None,), (0,), ("A",), ("a", "b"), ("a", -1), ("a", 12), ("a", True),
        ("a", False), ("a", None), ("a", (1,)), ("a", []), ((), ()), ((), 0), ((), True), ((), "A"), ((), []),
        ([], "a"), (("a",),), (["a"], 0), (("a",), None), (("a",), "a"), (("a",), []), (("a", True), 0),
        (("a", []), 0), ("a", {}), [], [None], ["a"], [("a",)], [("a",), 0], {}, {"a": ()}, {"a": (0,)}, set(), {1},
        frozenset(), frozenset({"a"}), object(), object, int, str, len, print, Ellipsis, NotImplemented,
        range(3), iter([]), (x for x in ()), ValueError("a"), ValueError, looped(), Touchy(), Agreeing(), [Touchy()],
        (Touchy(),), (Touchy(), Touchy()), (Agreeing(),), (Agreeing(), 0), ((), Touchy()), ((), Agreeing()),
        (("a",), Touchy()), (("a",), Agreeing()), (("a", Touchy()), 0), (("a", Agreeing()), 0), (Touchy(), "a"),
    ]


def no_lists_of_whos():
    """Things of many kinds, none of which is a list or a tuple of WHOS."""
    def is_one(thing):
        return isinstance(thing, (list, tuple)) and all([isinstance(part, tuple) and len(part) == 1
                                                         and isinstance(part[0], str) for part in thing])
    a = ("a",)
    things = [thing for thing in odd_things() if not is_one(thing)]
    things += [[thing] for thing in odd_things()] + [[a, thing] for thing in odd_things()]
    return things + [(thing, a) for thing in odd_things()] + [
        a, "a", {a: True}, {a}, [["a"]], [("a", True)], [()], [("b",), ("a", False)], iter([a]), range(0), {}]


def no_limits():
    """Things of many kinds, none of which is a whole number from 0 to 200."""
    things = [thing for thing in odd_things() if isinstance(thing, bool) or not isinstance(thing, int)]
    return things + [-1, 201, "1", 10 ** 29, -200, -(10 ** 29), [0], (0,), "200", b"0"]


def some_kinds():
    """Kinds with none, one and two hands, of one lot and of two."""
    return Kinds({"zero": (), "succ": (0,), "dup": (0, 0), "add": (0, 1)})
