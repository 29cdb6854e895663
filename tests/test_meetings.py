"""Point 13: READY, LEFT and RIGHT, the MEETING, what comes of it, JOINTS. Point 4: names have no bearing."""

import itertools
import random
import unittest

from onefacers.books import Book
from onefacers.errors import NoMeeting, Unlike
from onefacers.kinds import Kinds
from onefacers.likeness import alike
from onefacers.meetings import is_still, met, ready
from onefacers.webs import Web
from onefacers.webtexts import web_text
from tests.things import Touchy, odd_things, some_kinds
from tests.worlds import (Unfolded, book_in, counts, end_in, random_web, random_world, sum_web, web_in, whos)

A, B = ("a",), ("b",)
TABLE = {"dup": (0, 0), "era": (), "one": (0,), "tri": (0, 0, 0)}


def pair_web(left, right, ties, more=""):
    """A web of two of these kinds, a and b, face to face, and more facers."""
    facers = f"a {left}, b {right}" + (f", {more}" if more else "")
    return web_in(Kinds(TABLE), facers, "a:0 b:0" + (f", {ties}" if ties else ""))


def ties_in(text):
    """Ties in words, rising, lesser ends first."""
    return sorted([tuple(sorted([end_in(word) for word in row.split()])) for row in text.split(", ") if row])


class Ready(unittest.TestCase):
    def pairs(self, rule, facers, ties, *pairs):
        book = book_in(TABLE, *rule)
        web = web_in(Kinds(TABLE), facers, ties)
        self.assertEqual(ready(book, web), [tuple(whos(pair)) for pair in pairs])
        self.assertIs(is_still(book, web), not pairs)

    def test_left_is_of_the_kind_that_the_rule_tells_first(self):
        for one, other in (("a", "b"), ("b", "a")):
            facers, ties = f"{one} dup, {other} one", "a:0 b:0, a:1 :p, b:1 :q"
            ties += ", " + ("a:2" if one == "a" else "b:2") + " :r"
            self.pairs(["dup one: era: l1 r1, l2 0:0"], facers, ties, f"{one} {other}")
            self.pairs(["one dup: era: l1 r1, r2 0:0"], facers, ties, f"{other} {one}")

    def test_of_one_kind_the_lesser_who_is_left(self):
        rule = ["era era::"]
        self.pairs(rule, "a era, b era", "a:0 b:0", "a b")
        self.pairs(rule, "a.10 era, a.9 era", "a.10:0 a.9:0", "a.9 a.10")
        self.pairs(rule, "b era, a.3 era", "b:0 a.3:0", "a.3 b")
        self.pairs(rule, "a.2 era, a.1.5 era", "a.2:0 a.1.5:0", "a.1.5 a.2")

    def test_rising_by_the_left_ones(self):
        rules = ["one era: era: l1 0:0", "era era::"]
        self.pairs(rules, "a era, d one, c era, b era, e era, f.11 era, f.9 one",
                   "a:0 d:0, c:0 b:0, d:1 e:0, f.9:0 f.11:0, f.9:1 :out", "b c", "d a", "f.9 f.11")

    def test_faces_that_are_tied_otherwise(self):
        rules = ["one one:: l1 r1", "era era::", "era one: era: r1 0:0"]
        self.pairs(rules, "a one, b era", "a:1 b:0, a:0 :out")
        self.pairs(rules, "a one", "a:1 a:0")
        self.pairs(rules, "a one, b one", "a:0 b:1, b:0 a:1")
        self.pairs(rules, "a dup, b one", "a:0 b:0, a:1 a:2, b:1 :out")
        self.pairs(rules, "", ":in :out")
        self.pairs([], "a era, b era", "a:0 b:0")
        self.pairs(rules, "", "")

    def test_of_numbers(self):
        self.assertEqual(ready(counts(), sum_web("add", 2, 1)), [tuple(whos("a ma"))])
        self.assertIs(is_still(counts(), sum_web("add", 2, 1)), False)
        self.assertEqual(ready(book=counts(), web=sum_web("mul", 0, 1)), [tuple(whos("a ma"))])
        self.assertIs(is_still(book=counts(), web=sum_web("mul", 0, 1)), False)


class Met(unittest.TestCase):
    def behind(self, rule, web, facers, ties, who="a"):
        """The meeting gives just these."""
        book = book_in(TABLE, rule)
        before = (web.facers(), web.ties())
        made = met(book, web, whos(who)[0])
        self.assertEqual(made.facers(), web_in(made.kinds(), facers, ties).facers())
        self.assertEqual(made.ties(), ties_in(ties))
        self.assertEqual(made.kinds(), Kinds(TABLE))
        self.assertEqual((web.facers(), web.ties()), before)
        self.assertEqual(made, Unfolded(book, web, whos(who)).web())

    def test_no_made_ones(self):
        self.behind("era era::", pair_web("era", "era", ""), "", "")
        self.behind("era era::", pair_web("era", "era", "c:0 d:0, :in :out", "c era, d era"),
                    "c era, d era", "c:0 d:0, :in :out")

    def test_twelve_made_ones(self):
        ties = ", ".join(f"{place}:0 {place + 1}:0" for place in range(0, 12, 2))
        self.behind("era era: " + "era " * 12 + ": " + ties, pair_web("era", "era", ""),
                    ", ".join(f"a.{place} era" for place in range(12)),
                    ", ".join(f"a.{place}:0 a.{place + 1}:0" for place in range(0, 12, 2)))

    def test_the_left_ones_who_with_the_place_behind(self):
        rule = "one era: one era: l1 0:0, 0:1 1:0"
        self.behind(rule, web_in(Kinds(TABLE), "a era, b one", "a:0 b:0, b:1 :out"),
                    "b.0 one, b.1 era", "b.0:0 :out, b.0:1 b.1:0", "b")
        web = web_in(Kinds(TABLE), "a.3.0 one, a.3.1 era", "a.3.0:0 a.3.1:0, a.3.0:1 :out")
        book = book_in(TABLE, rule)
        self.assertEqual(web_text(met(book, web, ("a", 3, 0))),
                         "facer a.3.0.0 one\nfacer a.3.0.1 era\ntie :out a.3.0.0:0\ntie a.3.0.0:1 a.3.0.1:0\n")

    def test_hands_by_their_numbers(self):
        rule = "tri dup: era era era era era: l1 0:0, l2 1:0, l3 2:0, r1 3:0, r2 4:0"
        self.behind(rule, pair_web("tri", "dup", "a:1 :p, a:2 :q, a:3 :r, b:1 :s, b:2 :t"),
                    ", ".join(f"a.{place} era" for place in range(5)),
                    "a.0:0 :p, a.1:0 :q, a.2:0 :r, a.3:0 :s, a.4:0 :t")
        rule = "tri dup: era era era era era: r1 0:0, l2 3:0, l3 2:0, l1 1:0, r2 4:0"
        self.behind(rule, pair_web("tri", "dup", "a:1 :p, a:2 :q, a:3 :r, b:1 :s, b:2 :t"),
                    ", ".join(f"a.{place} era" for place in range(5)),
                    "a.1:0 :p, a.3:0 :q, a.2:0 :r, a.0:0 :s, a.4:0 :t")

    def test_r_belongs_to_the_right_one_of_one_kind(self):
        rule = "one one: dup dup: l1 0:0, r1 1:0, 0:1 1:1, 0:2 1:2"
        self.behind(rule, pair_web("one", "one", "a:1 :p, b:1 :q"),
                    "a.0 dup, a.1 dup", "a.0:0 :p, a.1:0 :q, a.0:1 a.1:1, a.0:2 a.1:2")

    def test_two_outer_ends_of_the_rule_tied(self):
        crossed = "dup dup:: l1 r2, l2 r1"
        self.behind("dup dup:: l1 r1, l2 r2", pair_web("dup", "dup", "a:1 :p, a:2 :q, b:1 :s, b:2 :t"),
                    "", ":p :s, :q :t")
        self.behind(crossed, pair_web("dup", "dup", "a:1 :p, a:2 :q, b:1 :s, b:2 :t"), "", ":p :t, :q :s")
        self.behind("dup dup:: l1 l2, r1 r2", pair_web("dup", "dup", "a:1 :p, a:2 :q, b:1 :s, b:2 :t"),
                    "", ":p :q, :s :t")
        self.behind("dup era:: l1 l2", pair_web("dup", "era", "a:1 :p, a:2 c:1, c:0 :q", "c one"),
                    "c one", ":p c:1, c:0 :q")
        self.behind("era dup:: r1 r2", web_in(Kinds(TABLE), "a era, b dup", "a:0 b:0, b:1 :p, b:2 :q"), "", ":p :q")

    def test_hands_of_the_two_tied_to_each_other(self):
        rule = "one one: dup dup: l1 0:0, r1 1:0, 0:1 1:1, 0:2 1:2"
        self.behind(rule, pair_web("one", "one", "a:1 b:1"),
                    "a.0 dup, a.1 dup", "a.0:0 a.1:0, a.0:1 a.1:1, a.0:2 a.1:2")
        self.behind("dup era: era era: l1 0:0, l2 1:0", pair_web("dup", "era", "a:1 a:2"),
                    "a.0 era, a.1 era", "a.0:0 a.1:0")
        self.behind("one era: one era: l1 1:0, 0:0 0:1", pair_web("one", "era", "a:1 c:0", "c era"),
                    "a.0 one, a.1 era, c era", "a.0:0 a.0:1, a.1:0 c:0")

    def test_from_joint_to_joint(self):
        rule = "tri tri:: l1 r1, l2 r2, l3 r3"
        # From p by a's first hand to b's first, to a's second, to b's second, to a's third, to b's third, to q.
        self.behind(rule, pair_web("tri", "tri", "a:1 :p, b:1 a:2, b:2 a:3, b:3 :q"), "", ":p :q")
        self.behind("tri tri:: l1 l2, l3 r3, r1 r2", pair_web("tri", "tri", "a:1 :p, a:2 b:3, a:3 b:1, b:2 :q"),
                    "", ":p :q")

    def test_ties_that_lead_back_into_themselves_are_dropped(self):
        self.behind("one one:: l1 r1", pair_web("one", "one", "a:1 b:1"), "", "")
        self.behind("dup era:: l1 l2", pair_web("dup", "era", "a:1 a:2"), "", "")
        self.behind("dup dup:: l1 l2, r1 r2", pair_web("dup", "dup", "a:1 a:2, b:1 :p, b:2 :q"), "", ":p :q")
        self.behind("dup dup:: l1 l2, r1 r2", pair_web("dup", "dup", "a:1 b:1, a:2 b:2"), "", "")
        self.behind("tri tri:: l1 r2, l2 r1, l3 r3", pair_web("tri", "tri", "a:1 b:1, a:2 b:2, a:3 :p, b:3 :q"),
                    "", ":p :q")
        self.behind("tri tri:: l1 r2, l2 r1, l3 r3", pair_web("tri", "tri", "a:1 b:2, a:2 b:1, a:3 b:3"), "", "")

    def test_a_face_tied_to_a_hand_of_its_own_facer(self):
        self.behind("era era::", pair_web("era", "era", "c:0 c:1", "c one"), "c one", "c:0 c:1")
        self.behind("one one: one one: l1 0:0, r1 1:0, 0:1 1:1", pair_web("one", "one", "a:1 c:0, b:1 c:1", "c one"),
                    "a.0 one, a.1 one, c one", "a.0:0 c:0, a.1:0 c:1, a.0:1 a.1:1")
        self.behind("one one:: l1 r1", pair_web("one", "one", "a:1 c:0, b:1 c:1", "c one"), "c one", "c:0 c:1")

    def test_what_stays_is_tied_to_what_comes_and_to_what_stays(self):
        web = sum_web("add", 1, 1)
        self.assertEqual(web_text(met(counts(), web, A)), """facer a.0 succ
facer a.1 add
facer mb zero
facer na succ
facer nb zero
tie :out a.0:0
tie a.0:1 a.1:2
tie a.1:0 mb:0
tie a.1:1 na:0
tie na:1 nb:0
""")
        self.assertEqual(web_text(met(book=counts(), web=sum_web("add", 0, 0), who=A)), "facer na zero\ntie :out na:0\n")

    def test_a_rule_that_tells_the_greater_kind_first(self):
        self.behind("one era: dup: l1 0:0, 0:1 0:2", web_in(Kinds(TABLE), "a era, b one", "a:0 b:0, b:1 :p"),
                    "b.0 dup", "b.0:0 :p, b.0:1 b.0:2", "b")
        self.behind("era one: dup: r1 0:0, 0:1 0:2", web_in(Kinds(TABLE), "a era, b one", "a:0 b:0, b:1 :p"),
                    "a.0 dup", "a.0:0 :p, a.0:1 a.0:2", "a")

    def test_against_walking(self):
        lengths = []
        for seed in range(250):
            book, web = random_world(seed, 8, 4)
            other = Unfolded(book, web)
            source = random.Random(seed)
            for _ in range(12):
                self.assertEqual(ready(book, web), other.pairs())
                self.assertIs(is_still(book, web), not other.pairs())
                if not other.pairs():
                    break
                who = source.choice(other.lefts())
                web = met(book, web, who)
                other.do(who)
                self.assertEqual(web, other.web())
                self.assertEqual(web_text(web), web_text(other.web()))
            lengths.append(len(web))
        self.assertGreater(max(lengths), 12)
        self.assertIn(0, lengths)

    def test_two_orders_come_to_one_web(self):
        unlike = 0
        for seed in range(250):
            book, web = random_world(seed, 8, 4)
            for (one, _), (other, _) in itertools.combinations(ready(book, web), 2):
                self.assertEqual(met(book, met(book, web, one), other), met(book, met(book, web, other), one))
                unlike += 1
        self.assertGreater(unlike, 50)

    def test_names_have_no_bearing(self):
        for seed in range(60):
            source = random.Random(seed)
            book, web = random_world(seed, 8, 4)
            names = [who for who, _ in web.facers()]
            goals = [("z", number) for number in range(len(names))]
            source.shuffle(goals)
            to = dict(zip(names, goals))

            def led(end):
                return end if end[0] == () else (to[end[0]], end[1])
            other = Web(web.kinds(), [(to[who], word) for who, word in web.facers()],
                        [(led(one), led(mate)) for one, mate in web.ties()])
            self.assertEqual(len(ready(book, web)), len(ready(book, other)))
            for left, right in ready(book, web):
                again = to[left] if to[left] in [who for who, _ in ready(book, other)] else to[right]
                self.assertTrue(alike(met(book, web, left), met(book, other, again)))


class Refused(unittest.TestCase):
    def test_no_meeting(self):
        web = sum_web("add", 1, 0)
        for thing in [("ma",), ("mb",), ("b",), ("a", 0), ("a", True), ("a",) * 2, ["a"], "a", *odd_things()]:
            with self.assertRaises(NoMeeting) as caught:
                met(counts(), web, thing)
            self.assertIs(caught.exception.who, thing)
        self.assertEqual(web, sum_web("add", 1, 0))

    def test_truths_are_no_places(self):
        book = book_in(TABLE, "era era::")
        for place in (0, 1):
            web = web_in(Kinds(TABLE), f"a.{place} era, b era", f"a.{place}:0 b:0")
            self.assertEqual(len(met(book, web, ("a", place))), 0)
            self.assertRaises(NoMeeting, met, book, web, ("a", bool(place)))

    def test_a_pair_without_a_rule(self):
        for rules in ([], ["dup dup:: l1 r1, l2 r2"]):
            for who in (A, B):
                self.assertRaises(NoMeeting, met, book_in(TABLE, *rules), pair_web("era", "era", ""), who)

    def test_twice(self):
        self.assertRaises(NoMeeting, met, counts(), met(counts(), sum_web("add", 0, 0), A), A)

    def test_unlike(self):
        book, web = counts(), sum_web("add", 1, 1)
        pairs = [(book, thing) for thing in odd_things()] + [(thing, web) for thing in odd_things()]
        pairs += [(thing, thing) for thing in odd_things()]
        pairs += [(book, book), (web, web), (web, book), (Book, Web), (Touchy(), web), (book, Touchy())]
        pairs += [(book, Web(some_kinds())), (Book(some_kinds()), web), (Book(Kinds({})), web), (book, Web(Kinds({})))]
        lots = Kinds({**{word: counts().kinds().lots(word) for word in counts().kinds().words()}, "dup": (0, 1)})
        pairs += [(Book(lots), web), (book, Web(lots))]
        for one, other in pairs:
            self.assertRaises(Unlike, ready, one, other)
            self.assertRaises(Unlike, is_still, one, other)
            self.assertRaises(Unlike, met, one, other, A)
            self.assertRaises(Unlike, met, one, other, None)

    def test_equal_kinds_will_do(self):
        web = sum_web("add", 0, 0)
        table = {word: web.kinds().lots(word) for word in web.kinds().words()[::-1]}
        again = Web(Kinds(table), web.facers(), web.ties())
        self.assertEqual(len(met(counts(), again, A)), 1)


class Kept(unittest.TestCase):
    def test_lists_that_are_told_may_be_changed(self):
        book, web = counts(), sum_web("add", 1, 1)
        row = ready(book, web)
        row.append(None)
        row.pop(0)
        self.assertEqual(ready(book, web), [(A, ("ma",))])
        made = met(book, web, A)
        made.facers().clear()
        made.ties().clear()
        self.assertEqual(made, met(book, web, A))
        self.assertEqual((book, web), (counts(), sum_web("add", 1, 1)))

    def test_what_came_back_may_be_handed_in(self):
        book, web = counts(), sum_web("mul", 2, 2)
        while not is_still(book, web):
            web = met(book, web, ready(book, web)[-1][0])
        self.assertEqual(sorted(word for _, word in web.facers()), ["succ"] * 4 + ["zero"])

    def test_long_names(self):
        book = book_in({"ping": ()}, "ping ping: ping ping: 0:0 1:0")
        one, other = ("a",) + (11,) * 199 + (0,), ("a",) + (11,) * 199 + (1,)
        web = Web(book.kinds(), [(one, "ping"), (other, "ping")], [((one, 0), (other, 0))])
        for count in range(200):
            self.assertEqual(ready(book, web), [(one + (0,) * count, (one + (0,) * (count - 1) + (1,)) if count else other)])
            web = met(book, web, one + (0,) * count)
        self.assertEqual(web.facers()[0], (one + (0,) * 200, "ping"))

    def test_random_webs_stay(self):
        for seed in range(30):
            source = random.Random(seed)
            book, _ = random_world(seed)
            web = random_web(source, book.kinds(), 6)
            text = web_text(web)
            for who, _ in ready(book, web):
                met(book, web, who)
            self.assertEqual(web_text(web), text)


if __name__ == "__main__":
    unittest.main()
