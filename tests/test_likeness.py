"""Point 12: RENAMING and ALIKE."""

import itertools
import random
import unittest

from onefacers.kinds import Kinds
from onefacers.likeness import alike, renaming
from onefacers.webs import Web
from tests.things import some_kinds


def letters(number):
    return "abcdefghijklmnopqrstuvwxyz"[number]


def web_of(words, ties, kinds=None):
    """A web of facers a, b, ... of these kinds, with ties in words: "a0 b1", an OUTER end in big letters."""
    def end(word):
        return ((), word.lower()) if word.isupper() else ((word[0],), int(word[1:]))
    facers = [((letters(at),), word) for at, word in enumerate(words.split())]
    return Web(kinds or some_kinds(), facers, [tuple(end(word) for word in tie.split()) for tie in ties.split(", ") if tie])


def renamed(web, names):
    """The web with each WHO led by the dict names."""
    def led(end):
        return end if end[0] == () else (names[end[0]], end[1])
    facers = [(names[who], word) for who, word in web.facers()]
    return Web(web.kinds(), facers, [(led(one), led(other)) for one, other in web.ties()])


def is_renaming(one, other, names):
    """Whether names is a renaming, by the words of the document."""
    whos, goals = [who for who, _ in one.facers()], [who for who, _ in other.facers()]
    return (isinstance(names, dict) and sorted(names) == whos and sorted(names.values()) == goals
            and all(one.kind(who) == other.kind(names[who]) for who in whos) and renamed(one, names) == other)


def has_renaming(one, other):
    """Whether some renaming is there, by trying all."""
    whos, goals = [who for who, _ in one.facers()], [who for who, _ in other.facers()]
    if one.kinds() != other.kinds() or len(whos) != len(goals):
        return False
    return any(is_renaming(one, other, dict(zip(whos, row))) for row in itertools.permutations(goals))


def random_web(source, words, outers):
    """A web of these kinds' facers and as many OUTER ends as make it even, tied at random."""
    kinds = some_kinds()
    ends = [((letters(at),), number) for at, word in enumerate(words) for number in range(kinds.hands(word) + 1)]
    outers += (len(ends) + outers) % 2
    ends += [((), letters(number)) for number in range(outers)]
    source.shuffle(ends)
    facers = [((letters(at),), word) for at, word in enumerate(words)]
    return Web(kinds, facers, list(zip(ends[::2], ends[1::2])))


class Likeness(unittest.TestCase):
    def like(self, one, other):
        names = renaming(one, other)
        self.assertTrue(is_renaming(one, other, names), names)
        self.assertIs(alike(one, other), True)
        self.assertTrue(is_renaming(other, one, renaming(other, one)))
        self.assertEqual(renaming(one, other), names)

    def unlike(self, one, other):
        for first, second in ((one, other), (other, one)):
            self.assertIsNone(renaming(first, second))
            self.assertIs(alike(first, second), False)

    def test_the_web_of_nothing(self):
        self.assertEqual(renaming(Web(some_kinds()), Web(some_kinds())), {})
        self.assertIs(alike(Web(some_kinds()), Web(some_kinds())), True)
        self.unlike(Web(some_kinds()), Web(Kinds({})))

    def test_a_web_and_itself(self):
        web = web_of("add succ zero", "a0 c0, a1 b0, a2 A, b1 B")
        self.like(web, web)
        self.assertEqual(renaming(web, web), {("a",): ("a",), ("b",): ("b",), ("c",): ("c",)})

    def test_other_names(self):
        web = web_of("add succ zero", "a0 c0, a1 b0, a2 A, b1 B")
        names = {("a",): ("z", 11, 0), ("b",): ("b",), ("c",): ("a", 4)}
        self.like(web, renamed(web, names))
        self.assertEqual(renaming(web, renamed(web, names)), names)
        self.assertEqual(renaming(one=web, other=renamed(web, names)), names)
        self.assertIs(alike(one=web, other=web), True)

    def test_equal_kinds_alone(self):
        words, ties = "zero", "a0 A"
        one = web_of(words, ties, Kinds({"zero": ()}))
        self.like(one, web_of(words, ties, Kinds({"zero": ()})))
        self.unlike(one, web_of(words, ties))

    def test_lots_count_among_the_kinds(self):
        words, ties = "add", "a0 A, a1 B, a2 C"
        self.unlike(web_of(words, ties, Kinds({"add": (0, 1)})), web_of(words, ties, Kinds({"add": (0, 0)})))

    def test_kinds_of_facers(self):
        self.unlike(web_of("add", "a0 A, a1 B, a2 C"), web_of("dup", "a0 A, a1 B, a2 C"))
        self.unlike(web_of("add dup", "a0 b0, a1 b1, a2 b2"), web_of("add add", "a0 b0, a1 b1, a2 b2"))
        self.like(web_of("add dup", "a0 b0, a1 b1, a2 b2"), web_of("dup add", "a0 b0, a1 b1, a2 b2"))

    def test_how_many(self):
        self.unlike(web_of("zero", "a0 A"), web_of("zero zero", "a0 A, b0 B"))
        self.unlike(web_of("", "A B"), web_of("", ""))
        self.unlike(web_of("zero zero", "a0 b0"), web_of("zero zero zero zero", "a0 b0, c0 d0"))

    def test_outer_ends_stay(self):
        self.unlike(web_of("zero", "a0 A"), web_of("zero", "a0 B"))
        self.unlike(web_of("add", "a0 A, a1 B, a2 C"), web_of("add", "a0 A, a1 C, a2 B"))
        self.unlike(web_of("", "A B, C D"), web_of("", "A C, B D"))
        self.unlike(web_of("zero zero", "A B, a0 C, b0 D"), web_of("zero zero", "A C, a0 B, b0 D"))
        self.like(web_of("", "A B, C D"), web_of("", "D C, A B"))
        self.like(web_of("zero zero", "a0 A, b0 B"), web_of("zero zero", "b0 A, a0 B"))

    def test_outer_ends_with_a_facer_on_one_side_alone(self):
        self.unlike(web_of("succ", "a0 A, a1 B, C D"), web_of("succ", "a0 a1, A B, C D"))
        self.unlike(web_of("succ", "a0 A, a1 B, C D"), web_of("succ", "a0 A, a1 C, B D"))

    def test_hands_by_their_numbers(self):
        self.unlike(web_of("dup", "a0 a1, a2 A"), web_of("dup", "a0 a2, a1 A"))
        self.unlike(web_of("dup", "a0 a1, a2 A"), web_of("dup", "a1 a2, a0 A"))
        self.unlike(web_of("succ succ", "a0 b0, a1 b1"), web_of("succ succ", "a0 b1, a1 b0"))
        self.like(web_of("succ succ", "a0 b1, a1 b0"), web_of("succ succ", "b0 a1, b1 a0"))

    def test_like_pieces_without_outer_ends(self):
        one = web_of("succ succ succ succ zero zero", "a0 a1, b0 b1, c0 d0, c1 d1, e0 f0")
        other = web_of("zero succ succ zero succ succ", "a0 d0, b0 b1, c0 e0, c1 e1, f0 f1")
        self.like(one, other)

    def test_pieces_of_other_sizes(self):
        one = web_of("succ succ succ", "a0 b1, b0 a1, c0 c1")
        other = web_of("succ succ succ", "a0 b1, b0 c1, c0 a1")
        self.unlike(one, other)
        self.unlike(web_of("succ succ", "a0 a1, b0 b1"), web_of("succ succ", "a0 b1, a1 b0"))
        self.unlike(web_of("succ succ succ succ", "a0 a1, b0 b1, c0 c1, d0 d1"),
                    web_of("succ succ succ succ", "a0 b1, a1 b0, c0 c1, d0 d1"))

    def test_rings_of_three_and_four(self):
        ring = "{0}0 {1}1, {1}0 {2}1, {2}0 {0}1"
        four = "{0}0 {1}1, {1}0 {2}1, {2}0 {3}1, {3}0 {0}1"
        one = web_of("succ " * 7, ring.format(*"abc") + ", " + four.format(*"defg"))
        self.like(one, web_of("succ " * 7, four.format(*"caeg") + ", " + ring.format(*"dfb")))
        self.unlike(one, web_of("succ " * 7, ring.format(*"abc") + ", d0 e1, e0 d1, f0 g1, g0 f1"))

    def test_by_trying_all(self):
        source = random.Random(12)
        found = {True: 0, False: 0}
        rows = [("dup", "dup", "succ"), ("succ", "succ", "succ", "succ"), ("zero", "zero", "succ", "succ"),
                ("dup", "succ", "succ"), ("dup", "dup"), ("succ", "succ", "succ"), ("add", "dup", "zero", "zero", "zero")]
        for turn in range(600):
            words = rows[turn % len(rows)]
            outers = source.choice((0, 0, 1, 2))
            one, other = random_web(source, words, outers), random_web(source, words, outers)
            expected = has_renaming(one, other)
            found[expected] += 1
            (self.like if expected else self.unlike)(one, other)
        self.assertGreater(min(found.values()), 20)

    def test_renamed_at_random(self):
        source = random.Random(5)
        for turn in range(60):
            words = [source.choice(("zero", "succ", "dup", "add")) for _ in range(20)]
            web = random_web(source, words, turn % 4)
            whos = [who for who, _ in web.facers()]
            goals = [(letters(number), number // 2, 11) for number in range(len(whos))]
            source.shuffle(goals)
            self.like(web, renamed(web, dict(zip(whos, goals))))

    def test_a_told_dict_may_be_changed(self):
        web = web_of("zero zero", "a0 b0")
        names = renaming(web, web)
        names.clear()
        self.assertTrue(is_renaming(web, web, renaming(web, web)))
        self.assertIsNot(renaming(web, web), renaming(web, web))
        self.assertEqual(web, web_of("zero zero", "a0 b0"))

    def test_a_great_web(self):
        whos = [("a", number // 10, number % 10) for number in range(120)]
        facers = [(who, "succ") for who in whos]
        web = Web(some_kinds(), facers, [((who, 0), (who, 1)) for who in whos])
        self.like(web, renamed(web, {who: ("b", *who[1:]) for who in whos}))


if __name__ == "__main__":
    unittest.main()
