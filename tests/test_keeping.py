"""Point 25: CHOICES, HELD, LED ON, rules that KEEP, PAPERS."""

import itertools
import random
import unittest

from onefacers.books import Book
from onefacers.errors import NoKind, NoRule, TooMany
from onefacers.keeping import MOST_CHOICES, all_keep, choices, is_why_not, keeps, why_not
from onefacers.kinds import Kinds
from onefacers.webs import Web
from tests.cases import Case
from tests.rounds import lotted_kinds, rings_of
from tests.things import Touchy, odd_things
from tests.worlds import book_in, counts, ends_of, facing, hand_ends, outer, random_rules

TABLE = {"both": (0, 0), "each": (0, 1), "era": (), "four": (0, 1, 0, 1), "one": (0,), "tri": (0, 0, 0),
         "six": (0, 1, 2, 0, 1, 2)}


def hands_by_lot(lots):
    return [[number for number, lot in enumerate(lots, 1) if lot == told] for told in sorted(set(lots))]


def all_choices(kinds, made):
    return list(itertools.product(*[list(itertools.product(*hands_by_lot(kinds.lots(word)))) for word in made]))


class Walked:
    """A rule, of which is found by walking what its choices lead on."""

    def __init__(self, kinds, rule):
        self.kinds, (self.left, self.right, self.made, ties) = kinds, rule
        self.mates = {one: other for tie in ties for one, other in (tie, tie[::-1])}
        self.outers = hand_ends(kinds, self.left, self.right)

    def web(self):
        """The rule's web; a made one's WHO has its place behind a letter."""
        def led(end):
            return (("a", *end[0]), end[1]) if end[0] else outer(end[1][0] + "abcdefg"[int(end[1][1])])
        return Web(self.kinds, [(("a", place), word) for place, word in enumerate(self.made)],
                   [(led(one), led(other)) for one, other in self.mates.items() if one < other])

    def rings(self):
        return [[(who[1:], into, out) for who, into, out in ring] for ring in rings_of(self.web())]

    def held(self, choice, end):
        return end[0] == () or end[1] == 0 or end[1] in choice[end[0][0]]

    def is_led_on(self, choice, start):
        seen, todo = set(), [start]
        while todo:
            end = todo.pop()
            mate = self.mates[end]
            if end in seen or not self.held(choice, end) or not self.held(choice, mate):
                continue
            seen.add(end)
            if mate[0] == ():
                if mate != start:
                    return True
                continue
            hands = range(self.kinds.hands(self.made[mate[0][0]]) + 1)
            todo += [(mate[0], number) for number in hands if number != mate[1] and self.held(choice, (mate[0], number))]
        return False

    def lot(self, end):
        word = self.left if end[1][0] == "l" else self.right
        return end[1][0], self.kinds.lots(word)[int(end[1][1]) - 1]

    def papers(self):
        """All papers."""
        found = [("ring", ring) for ring in self.rings()]
        for choice in all_choices(self.kinds, self.made):
            led_on = [end for end in sorted(self.outers) if self.is_led_on(choice, end)]
            found += [("ends", choice, one, other) for one, other in itertools.combinations(led_on, 2)
                      if self.lot(one) == self.lot(other)]
        return found


def rule_book(*rules):
    return book_in(TABLE, *rules)


def twelve_made():
    """A rule of twelve made ones, of two choices each, that ties two hands of one lot."""
    ties = [f"{place}:1 {place}:2" for place in range(12)] + [f"{place}:0 {place + 1}:0" for place in range(0, 12, 2)]
    return rule_book(f"both era: {'both ' * 12}: l1 l2, " + ", ".join(ties))


class Choices(Case):
    def test_how_many(self):
        book = rule_book("one era: tri both: l1 0:0, 0:1 0:2, 0:3 1:0, 1:1 1:2", "era era::",
                         "one one: era era: l1 0:0, r1 1:0", "each era: each era: l1 0:0, l2 0:1, 0:2 1:0",
                         "four era: six era: l1 0:1, l2 0:2, l3 0:3, l4 0:4, 0:0 0:5, 0:6 1:0")
        for one, other, many in (("one", "era", 6), ("era", "era", 1), ("one", "one", 1), ("each", "era", 1),
                                 ("four", "era", 8)):
            self.assertEqual(choices(book, one, other), many)
            self.assertEqual(choices(book, other, one), many)
            self.assertEqual(choices(book=book, one=one, other=other), many)

    def test_as_many_as_there_are(self):
        for seed in range(60):
            source = random.Random(seed)
            kinds = lotted_kinds(source, 4)
            book = Book(kinds, random_rules(source, kinds, 3))
            for left, right, made, _ in book.rules():
                self.assertEqual(choices(book, left, right), len(all_choices(kinds, made)))

    def test_very_many(self):
        self.assertEqual(choices(twelve_made(), "both", "era"), 4096)
        kinds = Kinds({"six": (0, 0, 0, 1, 1, 1), "era": ()})
        ends = ends_of(kinds, [((place,), "six") for place in range(12)]) + hand_ends(kinds, "era", "six")
        book = Book(kinds, [("era", "six", ["six"] * 12, facing(ends))])
        self.assertEqual(choices(book, "six", "era"), 9 ** 12)


class Keeps(Case):
    def keeps(self, rule, *papers):
        """A rule keeps just if no papers are told; these are all papers of one kind that there are."""
        book = rule_book(rule)
        left, right = book.rules()[0][:2]
        walked = Walked(book.kinds(), book.rules()[0])
        for one, other in ((left, right), (right, left)):
            self.assertIs(keeps(book, one, other), not papers)
            told = why_not(book, one, other)
            if papers:
                self.assertIsInstance(told, tuple)
                self.assertIn(told, walked.papers())
                self.assertIs(is_why_not(book, one, other, told), True)
            else:
                self.assertIsNone(told)
            for paper in papers:
                self.assertIs(is_why_not(book, one, other, paper), True)
                self.assertIn(paper, walked.papers())
        self.assertIs(all_keep(book), not papers)

    def test_without_made_ones(self):
        self.keeps("era era::")
        self.keeps("one one:: l1 r1")
        self.keeps("each era:: l1 l2")
        self.keeps("both era:: l1 l2", ("ends", (), outer("l1"), outer("l2")))
        self.keeps("both both:: l1 r1, l2 r2", ("ends", (), outer("l1"), outer("l2")),
                   ("ends", (), outer("r1"), outer("r2")))
        self.keeps("each each:: l1 r1, l2 r2")
        # They are led on, each to one of the other side: all together they have to be of unlike lots.
        self.keeps("both each:: l1 r1, l2 r2", ("ends", (), outer("l1"), outer("l2")))

    def test_kinds_without_hands(self):
        self.keeps("both era: era era: l1 0:0, l2 1:0")
        self.keeps("era era: era era: 0:0 1:0")
        self.keeps("tri era: era era era: l1 0:0, l2 1:0, l3 2:0")
        self.keeps("tri one: era era: l1 0:0, l2 1:0, l3 r1")

    def test_an_l_and_an_r(self):
        self.keeps("one one: one one: l1 0:0, 0:1 1:1, r1 1:0")
        self.keeps("one tri: era era era one era: l1 3:0, 3:1 r1, r2 1:0, r3 2:0, 0:0 4:0")

    def test_a_ring_of_its_web(self):
        self.keeps("era era: one: 0:0 0:1", ("ring", [((0,), 1, 0)]), ("ring", [((0,), 0, 1)]))
        self.keeps("era era: each era: 0:1 0:2, 0:0 1:0", ("ring", [((0,), 1, 2)]))
        self.keeps("era era: both era: 0:1 0:2, 0:0 1:0")
        self.keeps("one one: one one: l1 r1, 0:0 1:0, 0:1 1:1", ("ring", [((0,), 0, 1), ((1,), 1, 0)]))
        self.keeps("one one: each each: l1 0:0, r1 1:0, 0:1 1:1, 0:2 1:2", ("ring", [((0,), 1, 2), ((1,), 2, 1)]))
        self.keeps("one one: both both: l1 0:0, r1 1:0, 0:1 1:1, 0:2 1:2")

    def test_led_on_through_made_ones(self):
        # The two hands at the two hands of one made one: of one lot just one of them is held.
        self.keeps("both era: both era: l1 0:1, l2 0:2, 0:0 1:0")
        self.keeps("both era: each era: l1 0:1, l2 0:2, 0:0 1:0", ("ends", ((1, 2), ()), outer("l1"), outer("l2")))
        self.keeps("both era: one: l1 0:0, l2 0:1", ("ends", ((1,),), outer("l1"), outer("l2")))
        self.keeps("each era: one: l1 0:0, l2 0:1")
        self.keeps("both era: one one: l1 0:1, l2 1:1, 0:0 1:0", ("ends", ((1,), (1,)), outer("l1"), outer("l2")))

    def test_by_some_choice_alone(self):
        self.keeps("both era: both era: l1 0:0, l2 0:1, 0:2 1:0", ("ends", ((1,), ()), outer("l1"), outer("l2")))
        self.keeps("both era: tri era era: l1 0:0, 0:1 1:0, 0:2 2:0, 0:3 l2", ("ends", ((3,), (), ()), outer("l1"), outer("l2")))
        book = rule_book("both era: tri era era: l1 0:0, 0:1 1:0, 0:2 2:0, 0:3 l2")
        for hand in (1, 2, 4, 0):
            self.assertIs(is_why_not(book, "both", "era", ("ends", ((hand,), (), ()), outer("l1"), outer("l2"))), False)

    def test_of_several_lots(self):
        # Of the made one's lots, one hand of each is held: l1 and l3 are of one lot.
        self.keeps("four era: four era: l1 0:1, l2 0:2, l3 0:3, l4 0:4, 0:0 1:0")
        self.keeps("four era: four era: l1 0:1, l3 0:2, l2 0:3, l4 0:4, 0:0 1:0",
                   ("ends", ((1, 2), ()), outer("l1"), outer("l3")), ("ends", ((3, 4), ()), outer("l2"), outer("l4")))

    def test_a_kind_with_itself(self):
        self.keeps("both both: one one: l1 0:0, r1 1:0, l2 0:1, r2 1:1",
                   ("ends", ((1,), (1,)), outer("l1"), outer("l2")), ("ends", ((1,), (1,)), outer("r1"), outer("r2")))
        self.keeps("one one: one one: l1 0:0, r1 1:0, 0:1 1:1")
        self.keeps("each each: one one: l1 0:0, r1 1:0, l2 0:1, r2 1:1")

    def test_counting_keeps(self):
        book = counts()
        self.assertIs(all_keep(book), True)
        self.assertIs(all_keep(book=book), True)
        for left, right, _, _ in book.rules():
            self.assertIs(keeps(book=book, one=left, other=right), True)
            self.assertIsNone(why_not(book=book, one=right, other=left))
        self.assertEqual([choices(book, word, "succ") for word in ("add", "dup", "era", "mul")], [1, 2, 1, 2])

    def test_no_rules(self):
        self.assertIs(all_keep(Book(Kinds({}))), True)
        self.assertIs(all_keep(Book(Kinds(TABLE))), True)

    def test_all_keep_just_if_each_does(self):
        self.assertIs(all_keep(rule_book("era era::", "each era:: l1 l2")), True)
        self.assertIs(all_keep(rule_book("era era::", "both era:: l1 l2")), False)
        self.assertIs(all_keep(rule_book("both era:: l1 l2", "one one:: l1 r1")), False)


class Papers(Case):
    def judged(self, book, pair, good, bad):
        for one, other in (pair, pair[::-1]):
            for paper in good:
                self.assertIs(is_why_not(book, one, other, paper), True)
                self.assertIs(is_why_not(book=book, one=one, other=other, thing=paper), True)
            for paper in bad:
                self.assertIs(is_why_not(book, one, other, paper), False)

    def test_rings(self):
        book = rule_book("one one: one one: l1 r1, 0:0 1:0, 0:1 1:1")
        ring = [((0,), 0, 1), ((1,), 1, 0)]
        good = [("ring", row) for row in (ring, tuple(ring), ring[::-1], [((0,), 1, 0), ((1,), 0, 1)])]
        bad = [["ring", ring], ("ring", ring[:1]), ("ring", []), ("ring", ring, None), ("ring",), ("rings", ring),
               ("RING", ring),
               ring, ("ring", [(("a", 0), 0, 1), (("a", 1), 1, 0)]), ("ring", [((0, 0), 0, 1), ring[1]]),
               ("ends", ring),
               ("ring", [(0, 0, 1), (1, 1, 0)]), ("ring", [((False,), 0, 1), ring[1]]),
               ("ring", [ring[0], ((True,), 1, 0)]),
               ("ring", [((0,), False, 1), ring[1]]), ("ring", [((0,), 0, True), ring[1]]),
               ("ring", [((2,), 0, 1), ring[1]]),
               ("ring", [((-1,), 0, 1), ring[1]]), ("ring", [((0,), 0, 1), ((1,), 0, 1)]), ("ring", [((), "l1", "r1")]),
               ("ring", [list(ring[0]), ring[1]]), ("ring", [([0], 0, 1), ring[1]]), (b"ring", ring),
               ("ring", {0: ring[0]})]
        self.judged(book, ("one", "one"), good, bad)

    def test_ends(self):
        book = rule_book("both each: each both era era: l1 0:1, l2 0:2, 0:0 2:0, r1 1:0, r2 1:1, 1:2 3:0")
        l1, l2, r1, r2 = outer("l1"), outer("l2"), outer("r1"), outer("r2")
        choice = ((1, 2), (1,), (), ())
        other = ((1, 2), (2,), (), ())
        good = [("ends", choice, l1, l2), ("ends", other, l1, l2)]
        bad = [("ends", choice, l2, l1), ("ends", choice, l1, l1), ("ends", choice, l1, r1), ("ends", choice, r1, r2),
               ("ends", other, r1, r2), ["ends", choice, l1, l2], ("end", choice, l1, l2), ("ends", choice, l1),
               ("ends", choice),
               ("ends", choice, l1, l2, None), ("ends", list(choice), l1, l2), ("ends", choice, list(l1), l2),
               ("ends", choice, l1, list(l2)), ("ends", choice, "l1", "l2"), ("ends", choice, (l1, l2)),
               ("ends", choice, l1, outer("l3")),
               ("ends", choice, outer("l0"), l2), ("ends", choice, ([], "l1"), l2), ("ends", choice, ("", "l1"), l2),
               ("ends", choice, ((0,), 1), ((0,), 2)), ("ends", choice, ((0,), 0), l2), ("ends", (), l1, l2),
               ("ring", choice, l1, l2),
               ("ends", ((1, 2), (1,), ()), l1, l2), ("ends", ((1, 2), (1,), (), (), ()), l1, l2),
               ("ends", ((2, 1), (1,), (), ()), l1, l2), ("ends", ((1, 2), (3,), (), ()), l1, l2),
               ("ends", ((1, 2), (0,), (), ()), l1, l2),
               ("ends", ((1,), (1,), (), ()), l1, l2), ("ends", ((1, 2), (1, 2), (), ()), l1, l2),
               ("ends", ((1, 2), (), (), ()), l1, l2),
               ("ends", ([1, 2], (1,), (), ()), l1, l2), ("ends", ((1, 2), [1], (), ()), l1, l2),
               ("ends", ((1, 2), 1, (), ()), l1, l2),
               ("ends", ((True, 2), (1,), (), ()), l1, l2), ("ends", ((1, 2), (True,), (), ()), l1, l2),
               ("ends", ((1, 2), (1,), None, ()), l1, l2), ("ends", ((1, 2), (1,), (), []), l1, l2),
               ("ends", ((1, 2), (-1,), (), ()), l1, l2)]
        self.judged(book, ("both", "each"), good, bad)

    def test_both_led_on_by_just_this_choice(self):
        book = rule_book("both era: both era: l1 0:0, l2 0:1, 0:2 1:0")
        l1, l2 = outer("l1"), outer("l2")
        self.judged(book, ("both", "era"), [("ends", ((1,), ()), l1, l2)], [("ends", ((2,), ()), l1, l2)])

    def test_led_on_apart(self):
        # l1 and l2 are each led on to an r, and not to each other; l3 isn't led on.
        book = rule_book("tri both: era: l1 r1, l2 r2, l3 0:0")
        l1, l2, l3, r1, r2 = [outer(name) for name in ("l1", "l2", "l3", "r1", "r2")]
        self.judged(book, ("tri", "both"), [("ends", ((),), l1, l2), ("ends", ((),), r1, r2)],
                    [("ends", ((),), l1, l3), ("ends", ((),), l2, l3), ("ends", ((),), l1, r2)])

    def test_of_anything(self):
        book = rule_book("both era: one: l1 0:0, l2 0:1", "one one: one one: l1 r1, 0:0 1:0, 0:1 1:1")
        l1, l2, ring = outer("l1"), outer("l2"), [((0,), 0, 1), ((1,), 1, 0)]
        self.assertIs(is_why_not(book, "both", "era", ("ends", ((1,),), l1, l2)), True)
        self.assertIs(is_why_not(book, "one", "one", ("ring", ring)), True)
        for thing in odd_things():
            for paper in (thing, ("ends", thing, l1, l2), ("ends", (thing,), l1, l2), ("ends", ((1,),), thing, l2),
                          ("ends", ((1,),), l1, thing), (thing, ((1,),), l1, l2), ("ends", ((1,), thing), l1, l2),
                          ("ends", ((1, thing),), l1, l2)):
                self.assertIs(is_why_not(book, "both", "era", paper), False)
            # What is left out here is just what is so.
            if not (thing.__class__ is tuple and len(thing) == 0):
                self.assertIs(is_why_not(book, "both", "era", ("ends", ((1,),), (thing, "l1"), l2)), False)
            if not (thing.__class__ is str and thing == "l1"):
                self.assertIs(is_why_not(book, "both", "era", ("ends", ((1,),), ((), thing), l2)), False)
            if not (thing.__class__ is int and thing == 1):
                self.assertIs(is_why_not(book, "both", "era", ("ends", ((thing,),), l1, l2)), False)
            for paper in (thing, ("ring", thing), ("ring", [thing]), ("ring", [thing, ring[1]]), (thing, ring)):
                self.assertIs(is_why_not(book, "one", "one", paper), False)
            if not (thing.__class__ is tuple and len(thing) == 1 and thing[0].__class__ is int):
                self.assertIs(is_why_not(book, "one", "one", ("ring", [(thing, 0, 1), ring[1]])), False)

    def test_a_rule_that_keeps_has_none(self):
        book = counts()
        for left, right, made, ties in book.rules():
            for choice in all_choices(book.kinds(), made):
                for one, other in itertools.permutations(hand_ends(book.kinds(), left, right), 2):
                    self.assertIs(is_why_not(book, left, right, ("ends", choice, one, other)), False)


class Limits(Case):
    def test_just_4096_choices(self):
        self.assertEqual(MOST_CHOICES, 4096)
        book = twelve_made()
        paper = ("ends", ((1,),) * 12, outer("l1"), outer("l2"))
        for one, other in (("both", "era"), ("era", "both")):
            self.assertIs(keeps(book, one, other), False)
            self.assertIs(is_why_not(book, one, other, why_not(book, one, other)), True)
            self.assertIs(is_why_not(book, one, other, paper), True)
        self.assertIs(all_keep(book), False)

    def too_many(self, kinds, rule, many):
        book = Book(kinds, [rule])
        for one, other in (rule[:2], rule[1::-1]):
            self.assertEqual(choices(book, one, other), many)
            for call in (keeps, why_not):
                self.refused(TooMany, {"limit": 4096}, call, book, one, other)
        self.refused(TooMany, {"limit": 4096}, all_keep, book)
        return book

    def test_just_more(self):
        # No number of choices lies between 4096 and this one.
        kinds = Kinds({"six": (0,) * 6, "five": (0,) * 5, "four": (0,) * 4, "era": (), "zero": ()})
        made = ["six", "six", "six", "five", "four"]
        ends = ends_of(kinds, [((place,), word) for place, word in enumerate(made)])
        self.too_many(kinds, ("era", "zero", made, facing(ends)), 4320)

    def test_more_whatever_else_is_so(self):
        kinds = Kinds({"p": (0,) * 6, "q": (0, 0, 1, 1, 2, 2), "both": (0, 0), "era": (), "one": (0,)})
        made = ["p", "p", "p", "p", "q"]
        many = 6 ** 4 * 8
        # Hands of one lot are tied to each other, and faces to faces: so there is no ring.
        loops = facing([((place,), number) for place in range(5) for number in range(1, 7)])
        faces = facing([((place,), 0) for place in range(6)])
        self.too_many(kinds, ("one", "era", made, [*loops, *faces[:2], (((4,), 0), outer("l1"))]), many)
        book = self.too_many(kinds, ("both", "era", [*made, "era"], [*loops, *faces, (outer("l1"), outer("l2"))]), many)
        choice = ((1,),) * 4 + ((1, 4, 6), ())
        self.assertIs(is_why_not(book, "era", "both", ("ends", choice, outer("l1"), outer("l2"))), True)
        self.assertIs(is_why_not(book, "era", "both", ("ends", choice, outer("l2"), outer("l1"))), False)
        book = self.too_many(kinds, ("era", "both", [*made, "era", "one"], [
            *loops, *faces, (((6,), 0), ((6,), 1)), (outer("r1"), outer("r2"))]), many)
        self.assertIs(is_why_not(book, "era", "both", ("ring", [((6,), 0, 1)])), True)
        self.assertIs(is_why_not(book, "era", "both", ("ring", [((0,), 1, 2)])), False)

    def test_ahead_of_all_looking(self):
        # The rule that is told first doesn't keep.
        kinds = Kinds({"a": (0, 0), "p": (0,) * 6, "z": ()})
        less = ("a", "z", [], [(outer("l1"), outer("l2"))])
        ends = ends_of(kinds, [((place,), "p") for place in range(5)]) + [((5,), 0)] + hand_ends(kinds, "p", "z")
        more = ("p", "z", ["p"] * 5 + ["z"], facing(ends))
        self.assertIs(all_keep(Book(kinds, [less])), False)
        for rules in ([less, more], [more, less]):
            self.refused(TooMany, {"limit": 4096}, all_keep, Book(kinds, rules))
            self.assertIs(keeps(Book(kinds, rules), "a", "z"), False)


class Refused(Case):
    def test_no_kind_one_first(self):
        book = rule_book("both era:: l1 l2")
        for call, more in ((choices, ()), (keeps, ()), (why_not, ()), (is_why_not, (None,)), (is_why_not, (Touchy(),))):
            for thing in ("zero", "a", "BOTH", *odd_things()):
                self.refused(NoKind, {"word": thing}, call, book, thing, "era", *more)
                self.refused(NoKind, {"word": thing}, call, book, "era", thing, *more)
                self.refused(NoKind, {"word": thing}, call, book, thing, "zero", *more)
            self.refused(NoKind, {"word": "x"}, call, book, "x", "y", *more)

    def test_no_rule(self):
        book = rule_book("both era:: l1 l2")
        for pair in (("both", "both"), ("era", "era"), ("one", "era"), ("era", "one")):
            for call, more in ((choices, ()), (keeps, ()), (why_not, ()), (is_why_not, (None,)),
                               (is_why_not, (Touchy(),))):
                self.refused(NoRule, {"pair": pair}, call, book, *pair, *more)


class AgainstWalking(Case):
    def test_all_papers(self):
        seen = {"ring": 0, "ends": 0, None: 0}
        for seed in range(150):
            source = random.Random(seed)
            kinds = lotted_kinds(source, 4)
            book = Book(kinds, random_rules(source, kinds, 3))
            kept = []
            for rule in book.rules():
                left, right, made, _ = rule
                walked = Walked(kinds, rule)
                papers = walked.papers()
                told = why_not(book, left, right)
                self.assertTrue(told in papers if papers else told is None)
                self.assertIs(keeps(book, right, left), not papers)
                seen[told and told[0]] += 1
                kept.append(not papers)
                for paper in papers[:20]:
                    self.assertIs(is_why_not(book, left, right, paper), True)
                for choice in all_choices(kinds, made)[:6]:
                    for one, other in itertools.product(walked.outers, walked.outers):
                        paper = ("ends", choice, one, other)
                        self.assertIs(is_why_not(book, left, right, paper), paper in papers)
            self.assertIs(all_keep(book), all(kept))
        self.assertGreater(min(seen.values()), 50)


class Kept(Case):
    def test_what_is_told_may_be_changed(self):
        book = rule_book("one one: one one: l1 r1, 0:0 1:0, 0:1 1:1")
        word, ring = why_not(book, "one", "one")
        again = list(ring)
        ring.clear()
        self.assertEqual(why_not(book, "one", "one"), (word, again))
        self.assertEqual(len(again), 2)
        self.assertIsInstance(again, list)
        self.assertEqual(book, rule_book("one one: one one: l1 r1, 0:0 1:0, 0:1 1:1"))


if __name__ == "__main__":
    unittest.main()
