"""Point 14: WHY a facer waits."""

import unittest

from onefacers.books import Book
from onefacers.errors import NoOne, Unlike
from onefacers.kinds import Kinds
from onefacers.webs import Web
from onefacers.whys import why_waits
from tests.things import Touchy, odd_things, some_kinds
from tests.worlds import book_in, counts, random_world, sum_web, web_in, who_of, whos

TABLE = {"dup": (0, 0), "era": (), "one": (0,)}
RULES = ["one era: era: l1 0:0", "era era::"]


def walked(book, web, who):
    """The word and the chain, by the words of the document."""
    chain = [who]
    while True:
        end, number = web.mate((chain[-1], 0))
        if end == ():
            return "outer", chain
        if number != 0 and end in chain:
            return "ring", [*chain, end]
        chain.append(end)
        if number == 0:
            rule = book.rule(web.kind(chain[-1]), web.kind(chain[-2]))
            return "ruleless" if rule is None else "ready", chain


class Waits(unittest.TestCase):
    def why(self, facers, ties, **told):
        book = book_in(TABLE, *RULES)
        web = web_in(Kinds(TABLE), facers, ties)
        self.assertEqual(sorted(told), sorted(who.replace(".", "_") for who in told))
        for name, text in told.items():
            word, *chain = text.split()
            self.assertEqual(why_waits(book, web, who_of(name)), (word, whos(" ".join(chain))))
        self.assertEqual(sorted(told), [who[0] for who, _ in web.facers()])

    def test_ready(self):
        self.why("a era, b era", "a:0 b:0", a="ready a b", b="ready b a")
        self.why("a era, b one", "a:0 b:0, b:1 :out", a="ready a b", b="ready b a")

    def test_ruleless(self):
        self.why("a one, b one", "a:0 b:0, a:1 :p, b:1 :q", a="ruleless a b", b="ruleless b a")
        self.why("a dup, b era", "a:0 b:0, a:1 a:2", a="ruleless a b", b="ruleless b a")

    def test_outer(self):
        self.why("a era", "a:0 :out", a="outer a")
        self.why("a one", "a:0 :out, a:1 :in", a="outer a")

    def test_ring(self):
        self.why("a one", "a:0 a:1", a="ring a a")
        self.why("a dup", "a:0 a:2, a:1 :out", a="ring a a")
        self.why("a one, b one", "a:0 b:1, b:0 a:1", a="ring a b a", b="ring b a b")
        self.why("a one, b one, c dup", "a:0 b:1, b:0 c:2, c:0 a:1, c:1 :out",
                 a="ring a b c a", b="ring b c a b", c="ring c a b c")

    def test_chains_that_run_into_a_ring(self):
        self.why("a era, b dup", "a:0 b:1, b:0 b:2", a="ring a b b", b="ring b b")
        self.why("a era, b one, c dup, d one", "a:0 b:1, b:0 c:1, c:0 d:1, d:0 c:2",
                 a="ring a b c d c", b="ring b c d c", c="ring c d c", d="ring d c d")

    def test_long_chains(self):
        self.why("a era, b one, c one, d era", "a:0 b:1, b:0 c:1, c:0 d:0",
                 a="ready a b c d", b="ready b c d", c="ready c d", d="ready d c")
        self.why("a era, b one, c one", "a:0 b:1, b:0 c:1, c:0 :out", a="outer a b c", b="outer b c", c="outer c")
        self.why("a era, b one, c one, d one", "a:0 b:1, b:0 c:1, c:0 d:0, d:1 :out",
                 a="ruleless a b c d", b="ruleless b c d", c="ruleless c d", d="ruleless d c")

    def test_the_end_of_the_chain_may_hold_its_beginning(self):
        self.why("a era, b one, c era", "a:0 b:1, b:0 c:0", a="ready a b c", b="ready b c", c="ready c b")
        self.why("a one, b one", "a:0 b:1, b:0 :out, a:1 :in", a="outer a b", b="outer b")

    def test_of_numbers(self):
        web = sum_web("add", 1, 1)
        self.assertEqual(why_waits(counts(), web, ("nb",)), ("ready", whos("nb na a ma")))
        self.assertEqual(why_waits(book=counts(), web=web, who=("mb",)), ("ready", whos("mb ma a")))

    def test_a_great_ring(self):
        names = [(letter + other,) for letter in "abcdefghijklmnopqrst" for other in "abcdefghijklmnopqrstuvwxyz"]
        ties = [((one, 0), (other, 1)) for one, other in zip(names, names[1:] + names[:1])]
        web = Web(Kinds(TABLE), [(who, "one") for who in names], ties)
        self.assertEqual(why_waits(book_in(TABLE), web, names[0]), ("ring", names + names[:1]))

    def test_against_walking(self):
        words = {}
        for seed in range(300):
            book, web = random_world(seed, 8)
            for who, _ in web.facers():
                told = why_waits(book, web, who)
                self.assertEqual(told, walked(book, web, who))
                words[told[0], len(told[1])] = words.get((told[0], len(told[1])), 0) + 1
        for word in (("ready", 2), ("ready", 3), ("ring", 2), ("ring", 3), ("ring", 4), ("outer", 1), ("outer", 2),
                     ("ruleless", 2), ("ruleless", 3)):
            self.assertIn(word, words)


class Refused(unittest.TestCase):
    def test_no_one(self):
        book, web = counts(), sum_web("add", 0, 0)
        for thing in [("b",), ("a", 0), (), ((), "out"), ("a", 0, 0), ["a"], *odd_things()]:
            with self.assertRaises(NoOne) as caught:
                why_waits(book, web, thing)
            self.assertIs(caught.exception.who, thing)

    def test_truths_are_no_places(self):
        book = book_in(TABLE)
        for place in (0, 1):
            web = web_in(Kinds(TABLE), f"a.{place} era", f"a.{place}:0 :out")
            self.assertEqual(why_waits(book, web, ("a", place)), ("outer", [("a", place)]))
            self.assertRaises(NoOne, why_waits, book, web, ("a", bool(place)))

    def test_unlike(self):
        book, web = counts(), sum_web("add", 0, 0)
        for thing in odd_things():
            for one, other in ((book, thing), (thing, web), (thing, thing)):
                self.assertRaises(Unlike, why_waits, one, other, ("a",))
                self.assertRaises(Unlike, why_waits, one, other, Touchy())
        self.assertRaises(Unlike, why_waits, book, Web(some_kinds()), ("a",))
        self.assertRaises(Unlike, why_waits, Book(some_kinds()), web, ("a",))
        self.assertRaises(Unlike, why_waits, web, book, ("a",))


class Kept(unittest.TestCase):
    def test_a_tuple_with_a_list(self):
        book, web = counts(), sum_web("add", 0, 0)
        told = why_waits(book, web, ("a",))
        self.assertEqual([type(part) for part in told], [tuple, str, list][1:])
        self.assertIs(type(told), tuple)
        told[1].clear()
        self.assertEqual(why_waits(book, web, ("a",)), ("ready", whos("a ma")))
        self.assertEqual((book, web), (counts(), sum_web("add", 0, 0)))


if __name__ == "__main__":
    unittest.main()
