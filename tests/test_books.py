"""Points 9 and 10: RULES, EVEN, and BOOKS."""

import itertools
import random
import unittest

from onefacers.books import MOST_MADE, Book
from onefacers.errors import NoBook, NoKind
from onefacers.kinds import Kinds
from tests.things import Touchy, odd_things, some_kinds

def end_of(word):
    """The end that is written so: 0:2 of a made one, l1 an OUTER one."""
    place, colon, number = word.partition(":")
    return ((int(place),), int(number)) if colon else ((), word)


def ties_of(text):
    """Ties in words: "l1 0:0, r1 0:1"."""
    return [tuple(end_of(word) for word in tie.split()) for tie in text.split(", ") if tie]


def rule_of(left, right, made="", ties=""):
    return (left, right, made.split(), ties_of(ties))


PLAIN = rule_of("zero", "zero")
CROSSED = rule_of("succ", "add", "succ add", "1:0 l1, 0:1 1:2, 0:0 r2, 1:1 r1")
CROSSED_TOLD = ("succ", "add", ("succ", "add"), (
    (((), "l1"), ((1,), 0)), (((), "r1"), ((1,), 1)), (((), "r2"), ((0,), 0)), (((0,), 1), ((1,), 2))))


def some_book():
    return Book(some_kinds(), [CROSSED, PLAIN])


class Refused(unittest.TestCase):
    def refused(self, what, number, *handed):
        with self.assertRaises(NoBook) as caught:
            Book(*handed)
        self.assertEqual((caught.exception.what, caught.exception.number), (what, number))
        self.assertIs(type(caught.exception.number), type(number))

    def bad(self, what, rule):
        """The rule is refused, alone and behind another one."""
        self.refused(what, 0, some_kinds(), [rule])
        self.refused(what, 0, some_kinds(), [rule, None])
        self.refused(what, 1, some_kinds(), [rule_of("add", "add", "", "l1 r1, l2 r2"), rule, None])


class Told(unittest.TestCase):
    def test_rules_as_told(self):
        book = some_book()
        self.assertEqual(book.rules(), [CROSSED_TOLD, ("zero", "zero", (), ())])
        self.assertEqual((book.kinds(), len(book)), (some_kinds(), 2))
        self.assertEqual([type(part) for part in book.rules()[0]], [str, str, tuple, tuple])
        self.assertEqual([type(tie) for tie in book.rules()[0][3]], [tuple] * 4)

    def test_rules_are_rising(self):
        pairs = [("zero", "succ"), ("succ", "succ"), ("zero", "zero")]
        rules = [PLAIN, rule_of("zero", "succ", "zero", "0:0 r1"), rule_of("succ", "succ", "", "r1 l1")]
        for row in itertools.permutations(rules):
            self.assertEqual([rule[:2] for rule in Book(some_kinds(), row).rules()], sorted(pairs))

    def test_ties_rise_as_numbers_do(self):
        made = "zero " * 11 + "succ"
        ties = "11:1 9:0, 10:0 8:0, 7:0 2:0, l1 1:0, 0:0 3:0, 4:0 5:0, 11:0 6:0"
        told = Book(some_kinds(), [rule_of("succ", "zero", made, ties)]).rules()[0]
        self.assertEqual(told[3], tuple(ties_of("l1 1:0, 0:0 3:0, 2:0 7:0, 4:0 5:0, 6:0 11:0, 8:0 10:0, 9:0 11:1")))
        self.assertEqual(told[2], ("zero",) * 11 + ("succ",))

    def test_the_rule_of_two_kinds(self):
        book = some_book()
        self.assertEqual(book.rule("succ", "add"), CROSSED_TOLD)
        self.assertEqual(book.rule("add", "succ"), CROSSED_TOLD)
        self.assertEqual(book.rule(one="zero", other="zero"), ("zero", "zero", (), ()))
        self.assertIsNone(book.rule("succ", "succ"))
        self.assertIsNone(book.rule("zero", "add"))

    def test_no_kind_one_first(self):
        book = some_book()
        for thing in ["mul", *odd_things()]:
            for handed in ((thing, "add"), (thing, None), (thing, Touchy()), ("add", thing)):
                with self.assertRaises(NoKind) as caught:
                    book.rule(*handed)
                self.assertIs(caught.exception.word, thing)

    def test_the_book_of_nothing(self):
        for book in (Book(Kinds({})), Book(Kinds({}), []), Book(kinds=Kinds({}), rules=())):
            self.assertEqual((book.rules(), len(book), book.kinds()), ([], 0, Kinds({})))

    def test_lists_and_tuples(self):
        left, right, made, ties = CROSSED
        for outer, inner, row in itertools.product((list, tuple), repeat=3):
            book = Book(some_kinds(), outer([(left, right, inner(made), row(ties))]))
            self.assertEqual(book.rules(), [CROSSED_TOLD])

    def test_by_name(self):
        self.assertEqual(Book(rules=[PLAIN, CROSSED], kinds=some_kinds()), some_book())

    def test_what_came_back_may_be_handed_in(self):
        self.assertEqual(Book(some_book().kinds(), some_book().rules()), some_book())

    def test_none_and_twelve_made_ones(self):
        self.assertEqual(MOST_MADE, 12)
        ties = ", ".join(f"{place}:0 {place + 1}:0" for place in range(0, 12, 2))
        book = Book(some_kinds(), [rule_of("zero", "zero", "zero " * 12, ties)])
        self.assertEqual(book.rule("zero", "zero")[2], ("zero",) * 12)
        self.assertEqual(some_book().rule("zero", "zero")[2:], ((), ()))

    def test_equal(self):
        book = some_book()
        self.assertIs(book == Book(some_kinds(), [PLAIN, CROSSED]), True)
        self.assertIs(book != some_book(), False)
        left, right, made, ties = CROSSED
        again = (left, right, made, [tie[::-1] for tie in ties[::-1]])
        self.assertIs(book == Book(some_kinds(), [again, PLAIN]), True)
        self.assertIs(book == Book(some_kinds(), [CROSSED]), False)
        self.assertIs(Book(Kinds({})) == Book(some_kinds()), False)
        self.assertIs(Book(Kinds({})) == Book(Kinds({})), True)

    def test_equal_as_told(self):
        one = Book(some_kinds(), [rule_of("succ", "zero", "zero", "l1 0:0")])
        self.assertIs(one == Book(some_kinds(), [rule_of("zero", "succ", "zero", "r1 0:0")]), False)
        two = Book(some_kinds(), [rule_of("dup", "zero", "zero zero", "l1 0:0, l2 1:0")])
        self.assertIs(two == Book(some_kinds(), [rule_of("dup", "zero", "zero zero", "l1 1:0, l2 0:0")]), False)

    def test_equal_to_nothing_else(self):
        for thing in odd_things():
            self.assertIs(some_book().__eq__(thing), False)
        self.assertIs(Book(Kinds({})) == Kinds({}), False)


class NoBooks(Refused):
    def test_no_kinds(self):
        for thing in odd_things():
            self.refused("kinds", None, thing)
            self.refused("kinds", None, thing, 5)
        self.refused("kinds", None, {"zero": ()}, [PLAIN])
        self.refused("kinds", None, Kinds, [PLAIN])

    def test_no_list_of_rules(self):
        for thing in odd_things():
            if not isinstance(thing, (list, tuple)):
                self.refused("rules", None, some_kinds(), thing)
        self.refused("rules", None, some_kinds(), {PLAIN[:2]: PLAIN})

    def test_no_rule(self):
        for thing in odd_things():
            self.bad("rule", thing)
        self.bad("rule", list(PLAIN))
        self.bad("rule", PLAIN[:3])
        self.bad("rule", (*PLAIN, []))

    def test_no_pair(self):
        for thing in ["mul", ("zero",), *odd_things()]:
            self.bad("pair", (thing, "zero", None, None))
            self.bad("pair", ("zero", thing, None, None))
            self.bad("pair", (thing, thing, [], []))
        self.refused("pair", 0, Kinds({}), [PLAIN])

    def test_again(self):
        self.refused("again", 1, some_kinds(), [PLAIN, PLAIN])
        self.refused("again", 1, some_kinds(), [CROSSED, CROSSED])
        self.refused("again", 2, some_kinds(), [CROSSED, PLAIN, ("add", "succ", None, None)])
        self.refused("again", 2, some_kinds(), [PLAIN, CROSSED, ("succ", "add", None, None), None])
        self.refused("again", 1, some_kinds(), [PLAIN, ("zero", "zero", None, None)])

    def test_no_made_ones(self):
        for thing in odd_things():
            if not (isinstance(thing, (list, tuple)) and len(thing) == 0):
                self.bad("made", ("zero", "zero", thing, None))
            self.bad("made", ("zero", "zero", [thing], None))
            self.bad("made", ("zero", "zero", ("zero", thing), []))
        self.bad("made", ("zero", "zero", ["zero", "mul"], []))
        self.bad("made", ("zero", "zero", "zero", []))
        self.bad("made", ("zero", "zero", {"zero": 0}, []))

    def test_a_thirteenth_made_one(self):
        ties = ", ".join(f"{place}:0 {place + 1}:0" for place in range(0, 14, 2))
        self.bad("made", rule_of("zero", "zero", "zero " * 14, ties))
        self.bad("made", rule_of("succ", "zero", "zero " * 13, ties.replace("13:0", "l1")))

    def test_no_list_of_ties(self):
        for thing in odd_things():
            if not (isinstance(thing, (list, tuple)) and len(thing) == 0):
                self.bad("ties", ("zero", "zero", [], thing))
        self.bad("ties", ("succ", "zero", ["zero"], dict(ties_of("l1 0:0"))))

    def test_no_tie(self):
        for thing in odd_things():
            self.bad("ties", ("succ", "zero", ["zero"], [thing]))
            self.bad("ties", ("succ", "zero", ["zero"], ties_of("l1 0:0") + [thing]))
        self.bad("ties", ("succ", "zero", ["zero"], [list(ties_of("l1 0:0")[0])]))
        self.bad("ties", ("succ", "zero", ["zero"], [ties_of("l1 0:0")[0] + (((), "l1"),)]))

    def test_no_end(self):
        for thing in [((0,), "0"), ((0,), True), ((0,), False), ((False,), 0), ((True,), 0), ((0, 0), 0), ((0, []), 0), ([0], 0),
                      ((-1,), 0), ((0,), -1), (0, 0), [(0,), 0], ((0,),), ((0,), 0, 0), ((), "l2"), ((), "r1"),
                      ((), "l0"), ((), "l01"), ((), "L1"), ((), 1), ((), "0"), ("", "l1"), ([], "l1"), "l1", "0:0",
                      *odd_things()]:
            self.bad("ties", ("succ", "zero", ["zero"], [(thing, ((), "l1"))]))
            self.bad("ties", ("succ", "zero", ["zero"], [(((), "l1"), thing)]))
            self.bad("ties", ("succ", "zero", ["zero"], [(((0,), 0), thing)]))

    def test_truths_are_no_places_and_no_hands(self):
        for ties in ([(((), "l1"), ((False,), 0))], [(((), "l1"), ((0,), False))]):
            self.bad("ties", ("succ", "zero", ["zero"], ties))
        first = ties_of("l1 0:0")
        self.bad("ties", ("succ", "succ", ["zero", "zero"], first + [(((), "r1"), ((True,), 0))]))
        self.bad("ties", ("add", "zero", ["succ"], first + [(((), "l2"), ((0,), True))]))

    def test_each_end_just_once(self):
        for ties in ("", "l1 0:0, 0:0 l1", "l1 l1", "0:0 0:0", "l1 0:0, l1 0:0", "l1 0:0, l1 l1", "l1 0:0, l2 r1",
                     "l1 0:0, 1:0 1:1", "l1 0:1", "l1 1:0"):
            self.bad("ties", rule_of("succ", "zero", "zero", ties))
        for ties in ("l1 0:0, l2 0:1", "l1 0:0, l2 0:1, r1 r1", "l1 0:0, l2 0:1, r1 0:0", "l1 0:0, l2 0:1, r1 l1",
                     "l1 0:0, l2 r1", "0:0 0:1"):
            self.bad("ties", rule_of("add", "succ", "succ", ties))

    def test_hands_of_the_left_and_the_right_one(self):
        self.bad("ties", rule_of("succ", "add", "succ", "l1 0:0, l2 r1, 0:1 r2"))
        self.bad("ties", rule_of("zero", "succ", "zero", "l1 0:0"))
        self.assertEqual(len(Book(some_kinds(), [rule_of("zero", "succ", "zero", "r1 0:0")])), 1)

    def test_in_turn(self):
        self.refused("ties", 0, some_kinds(), [("zero", "zero", [], [None]), PLAIN, None])
        self.refused("rule", 2, some_kinds(), [PLAIN, CROSSED, None, ("zero", "zero", None, None)])
        self.refused("pair", 1, some_kinds(), [PLAIN, ("none", "zero", None, None), None])
        self.refused("made", 0, some_kinds(), [("zero", "zero", None, None), ("zero", "zero", [], [])])
        self.refused("ties", 0, some_kinds(), [rule_of("succ", "succ", "zero", "l1 0:0")])


def exchanged(end):
    """The end with l and r exchanged."""
    who, number = end
    return (who, {"l": "r", "r": "l"}[number[0]] + number[1:]) if who == () else end


def is_even(rule):
    """Whether a rule of a kind with itself is even, by trying all turns of its made ones."""
    _, _, made, ties = rule
    want = {frozenset(tie) for tie in ties}
    for turn in itertools.permutations(range(len(made))):
        if [made[place] for place in turn] == list(made):
            led = {frozenset(exchanged(end if end[0] == () else ((turn[end[0][0]],), end[1])) for end in tie)
                   for tie in ties}
            if led == want:
                return True
    return False


def random_rule(source, word, made):
    """A rule of a kind with itself, tied at random."""
    kinds = some_kinds()
    ends = [((), f"{side}{number}") for side in "lr" for number in range(1, kinds.hands(word) + 1)]
    ends += [((place,), number) for place, name in enumerate(made) for number in range(kinds.hands(name) + 1)]
    source.shuffle(ends)
    return (word, word, made, list(zip(ends[::2], ends[1::2])))


class Even(Refused):
    def even(self, *rule):
        self.assertTrue(is_even(rule_of(*rule)))
        self.assertEqual(len(Book(some_kinds(), [rule_of(*rule)])), 1, rule)

    def uneven(self, *rule):
        self.assertFalse(is_even(rule_of(*rule)))
        self.bad("even", rule_of(*rule))

    def test_without_made_ones(self):
        for ties in ("l1 r1, l2 r2", "l1 r2, l2 r1", "l1 l2, r1 r2"):
            self.even("dup", "dup", "", ties)
        self.even("zero", "zero")
        self.even("succ", "succ", "", "r1 l1")

    def test_by_another_turn_of_the_made_ones(self):
        self.even("succ", "succ", "zero zero", "l1 0:0, r1 1:0")
        self.even("succ", "succ", "succ succ", "l1 0:0, r1 1:0, 0:1 1:1")
        self.even("succ", "succ", "succ succ", "l1 0:1, r1 1:1, 0:0 1:0")
        self.even("succ", "succ", "succ zero succ zero", "l1 0:1, 0:0 3:0, r1 2:1, 2:0 1:0")
        self.even("succ", "succ", "add add", "l1 0:0, r1 1:0, 0:1 1:2, 0:2 1:1")
        self.even("dup", "dup", "succ succ", "l1 0:0, 0:1 r2, r1 1:0, 1:1 l2")
        self.even("dup", "dup", "dup dup dup dup", "l1 0:0, l2 1:0, r1 2:0, r2 3:0, 0:1 2:1, 0:2 3:1, 1:1 2:2, 1:2 3:2")

    def test_with_pieces_that_hang_on_nothing(self):
        self.even("succ", "succ", "succ", "l1 r1, 0:0 0:1")
        self.even("zero", "zero", "zero add succ", "0:0 1:0, 1:1 2:0, 1:2 2:1")
        self.even("succ", "succ", "zero succ zero succ zero zero", "l1 0:0, r1 2:0, 1:0 3:1, 1:1 3:0, 4:0 5:0")

    def test_by_the_place_of_a_hand(self):
        self.uneven("succ", "succ", "succ", "l1 0:0, r1 0:1")
        self.uneven("succ", "succ", "succ succ", "l1 0:0, r1 1:1, 0:1 1:0")
        self.uneven("dup", "dup", "succ succ", "l1 0:0, 0:1 r2, l2 1:0, 1:1 r1")
        self.uneven("succ", "succ", "add add", "l1 0:0, r1 1:1, 0:1 1:2, 0:2 1:0")

    def test_by_kinds(self):
        self.uneven("succ", "succ", "zero succ zero", "l1 0:0, r1 1:0, 1:1 2:0")
        self.uneven("succ", "succ", "add dup", "l1 0:0, r1 1:0, 0:1 1:1, 0:2 1:2")

    def test_one_side_tied_to_itself(self):
        self.uneven("dup", "dup", "succ", "l1 l2, r1 0:0, r2 0:1")
        self.uneven("dup", "dup", "succ", "r1 r2, l1 0:0, l2 0:1")
        self.uneven("dup", "dup", "dup zero", "l1 0:0, l2 0:1, r1 0:2, r2 1:0")

    def test_a_rule_of_two_kinds_needs_not_be_even(self):
        kinds = Kinds({"one": (0,), "two": (0,)})
        self.assertEqual(len(Book(kinds, [rule_of("one", "two", "one", "l1 0:0, r1 0:1")])), 1)

    def test_ties_go_ahead(self):
        self.bad("ties", rule_of("succ", "succ", "succ", "l1 0:0, r1 0:2"))

    def test_by_trying_all(self):
        source = random.Random(3)
        found = {True: 0, False: 0}
        rows = [("dup", ["succ", "succ"]), ("succ", ["zero", "zero"]), ("succ", ["succ", "succ"]), ("dup", []),
                ("succ", ["zero", "zero", "succ"]), ("add", ["zero", "zero"]), ("succ", ["dup", "dup"]),
                ("succ", ["succ", "succ", "succ", "succ"])]
        for turn in range(800):
            word, made = rows[turn % len(rows)]
            rule = random_rule(source, word, made)
            expected = is_even(rule)
            found[expected] += 1
            if expected:
                self.assertEqual(len(Book(some_kinds(), [rule])), 1, rule)
            else:
                self.refused("even", 0, some_kinds(), [rule])
        self.assertGreater(min(found.values()), 100)


class Kept(unittest.TestCase):
    def test_what_is_handed_in_stays_and_has_no_bearing_later(self):
        made, ties = ["succ", "add"], list(CROSSED[3])
        rules = [("succ", "add", made, ties), PLAIN]
        book = Book(some_kinds(), rules)
        self.assertEqual(rules, [("succ", "add", ["succ", "add"], CROSSED[3]), PLAIN])
        made.clear()
        ties.pop()
        rules.clear()
        self.assertEqual(book, some_book())
        self.assertEqual(book.rule("add", "succ"), CROSSED_TOLD)
        self.assertEqual(len(book), 2)

    def test_what_is_refused_stays(self):
        made, ties = ["succ"], ties_of("l1 0:0, r1 0:1")
        rules = [PLAIN, ("succ", "succ", made, ties)]
        self.assertRaises(NoBook, Book, some_kinds(), rules)
        self.assertEqual(rules, [PLAIN, ("succ", "succ", ["succ"], ties_of("l1 0:0, r1 0:1"))])

    def test_a_told_list_belongs_to_whoever_asked(self):
        book = some_book()
        rules = book.rules()
        rules.pop()
        rules.append(None)
        self.assertIsNot(book.rules(), book.rules())
        self.assertEqual(book, some_book())
        self.assertEqual(book.rules(), [CROSSED_TOLD, ("zero", "zero", (), ())])


if __name__ == "__main__":
    unittest.main()
