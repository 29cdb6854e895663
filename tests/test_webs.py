"""Points 6 and 7: WHOS, ENDS, TIES and WEBS."""

import itertools
import unittest

from onefacers.errors import NoEnd, NoOne, NoWeb
from onefacers.kinds import Kinds
from onefacers.webs import Web
from tests.things import Touchy, odd_things, some_kinds

A, B = ("a",), ("b",)
OUT, IN = ((), "out"), ((), "in")
FACERS = [(B, "succ"), (A, "add")]
TIES = [((B, 0), (A, 0)), (OUT, (A, 2)), ((A, 1), IN), ((B, 1), ((), "far"))]
RISING = [(((), "far"), (B, 1)), (IN, (A, 1)), (OUT, (A, 2)), ((A, 0), (B, 0))]


def some_web():
    return Web(some_kinds(), FACERS, TIES)


def alone(*whos):
    """A web of facers without hands, each tied to an OUTER end of its own."""
    ties = [(((), letter), (who, 0)) for letter, who in zip("abcdefghijkl", whos)]
    return Web(some_kinds(), [(who, "zero") for who in whos], ties)


class Refused(unittest.TestCase):
    def refused(self, what, who, *handed):
        with self.assertRaises(NoWeb) as caught:
            Web(*handed)
        self.assertEqual(caught.exception.what, what)
        self.assertEqual(caught.exception.who, who)
        self.assertIs(type(caught.exception.who), type(who))


class Told(unittest.TestCase):
    def test_facers_ties_and_outers_are_rising(self):
        web = some_web()
        self.assertEqual(web.facers(), [(A, "add"), (B, "succ")])
        self.assertEqual(web.ties(), RISING)
        self.assertEqual(web.outers(), ["far", "in", "out"])
        self.assertEqual(web.kinds(), some_kinds())
        self.assertEqual(len(web), 2)

    def test_whos_rise_as_numbers_do(self):
        web = alone(("a", 10), ("b",), ("a", 9), ("a", 2, 0))
        self.assertEqual([who for who, _ in web.facers()], [("a", 2, 0), ("a", 9), ("a", 10), ("b",)])

    def test_ties_are_told_by_their_lesser_ends(self):
        web = Web(some_kinds(), [(A, "add"), (B, "zero")], [((A, 2), (A, 1)), ((B, 0), (A, 0))])
        self.assertEqual(web.ties(), [((A, 0), (B, 0)), ((A, 1), (A, 2))])
        web = Web(some_kinds(), (), [(OUT, IN), (((), "b"), ((), "a"))])
        self.assertEqual(web.ties(), [(((), "a"), ((), "b")), (IN, OUT)])

    def test_the_web_of_nothing(self):
        for web in (Web(some_kinds()), Web(some_kinds(), []), Web(some_kinds(), (), ()), Web(Kinds({}), [], [])):
            self.assertEqual((web.facers(), web.ties(), web.outers(), len(web)), ([], [], [], 0))

    def test_two_outer_ends_tied(self):
        web = Web(Kinds({}), [], [(OUT, IN)])
        self.assertEqual((web.ties(), web.outers(), len(web)), ([(IN, OUT)], ["in", "out"], 0))
        self.assertEqual((web.mate(OUT), web.mate(IN)), (IN, OUT))

    def test_two_hands_of_one_facer_tied(self):
        web = Web(some_kinds(), [(A, "dup")], [((A, 2), (A, 1)), (OUT, (A, 0))])
        self.assertEqual((web.mate((A, 1)), web.mate((A, 2))), ((A, 2), (A, 1)))

    def test_a_face_tied_to_its_own_hand(self):
        web = Web(some_kinds(), [(A, "succ")], [((A, 1), (A, 0))])
        self.assertEqual((web.mate((A, 1)), web.ties()), ((A, 0), [((A, 0), (A, 1))]))

    def test_lists_and_tuples(self):
        for facers, ties in itertools.product((FACERS, tuple(FACERS)), (TIES, tuple(TIES))):
            self.assertEqual(Web(some_kinds(), facers, ties).ties(), RISING)

    def test_by_name(self):
        self.assertEqual(Web(kinds=some_kinds(), facers=FACERS, ties=TIES), some_web())
        self.assertEqual(Web(ties=[(OUT, IN)], kinds=some_kinds()).outers(), ["in", "out"])

    def test_six_hands(self):
        kinds = Kinds({"six": (0, 0, 0, 0, 0, 0)})
        ties = [(((), name), (A, number)) for number, name in enumerate("abcdefg")]
        self.assertEqual([Web(kinds, [(A, "six")], ties).mate((A, number)) for number in range(7)],
                         [((), name) for name in "abcdefg"])


class Asked(unittest.TestCase):
    def test_has(self):
        web = some_web()
        self.assertIs(web.has(A), True)
        self.assertIs(web.has(thing=B), True)
        self.assertIs(web.has(("c",)), False)
        self.assertIs(web.has(()), False)
        for thing in odd_things():
            self.assertIs(web.has(thing), False)

    def test_kind(self):
        web = some_web()
        self.assertEqual((web.kind(A), web.kind(who=B)), ("add", "succ"))
        for thing in [("c",), ("a", 0), *odd_things()]:
            with self.assertRaises(NoOne) as caught:
                web.kind(thing)
            self.assertIs(caught.exception.who, thing)

    def test_truths_are_no_places(self):
        web = alone(("a", 1), ("a", 0))
        for who in (("a", True), ("a", False)):
            self.assertIs(web.has(who), False)
            self.assertRaises(NoOne, web.kind, who)
            self.assertRaises(NoEnd, web.mate, (who, 0))

    def test_mate(self):
        web = some_web()
        for one, other in TIES:
            self.assertEqual((web.mate(one), web.mate(end=other)), (other, one))

    def test_no_end(self):
        web = some_web()
        none = [((), "none"), (A, 3), (A, -1), (B, 2), (("c",), 0), (A, True), (A, False), (A, "out"), ((), 0), A, (A,),
                (A, 0, 0), [A, 0], (list(A), 0), ([], "out"), (A, "0"), (A, None), ("", "out")]
        for thing in [*none, *odd_things()]:
            with self.assertRaises(NoEnd) as caught:
                web.mate(thing)
            self.assertIs(caught.exception.end, thing)

    def test_an_outer_end_that_is_in_no_tie(self):
        self.assertRaises(NoEnd, Web(some_kinds()).mate, OUT)

    def test_equal(self):
        web = some_web()
        self.assertIs(web == Web(some_kinds(), FACERS[::-1], [tie[::-1] for tie in TIES[::-1]]), True)
        self.assertIs(web != some_web(), False)
        self.assertIs(Web(Kinds({})) == Web(Kinds({})), True)
        self.assertIs(Web(Kinds({})) == Web(some_kinds()), False)
        more = Kinds({"zero": (), "succ": (0,), "dup": (0, 0), "add": (0, 0)})
        self.assertIs(web == Web(more, FACERS, TIES), False)
        self.assertIs(web == Web(some_kinds(), [(B, "succ"), (A, "dup")], TIES), False)
        self.assertIs(alone(A) == alone(B), False)
        other = [((B, 0), (A, 0)), (OUT, (A, 1)), ((A, 2), IN), ((B, 1), ((), "far"))]
        self.assertIs(web == Web(some_kinds(), FACERS, other), False)
        self.assertIs(Web(some_kinds(), (), [(OUT, IN)]) == Web(some_kinds()), False)

    def test_equal_to_nothing_else(self):
        web = some_web()
        for thing in odd_things():
            self.assertIs(web.__eq__(thing), False)
        self.assertIs(web.__eq__(Touchy()), False)
        self.assertIs(web == some_kinds(), False)
        self.assertIs(Web(Kinds({})) == Kinds({}), False)


class NoFacers(Refused):
    def test_no_kinds(self):
        for thing in odd_things():
            self.refused("kinds", None, thing)
            self.refused("kinds", None, thing, 5, 5)
        self.refused("kinds", None, {"zero": ()}, [(A, "zero")], [(OUT, (A, 0))])
        self.refused("kinds", None, Kinds)

    def test_no_list_of_facers(self):
        for thing in odd_things():
            if not isinstance(thing, (list, tuple)):
                self.refused("facers", None, some_kinds(), thing)
                self.refused("facers", None, some_kinds(), thing, 5)
        self.refused("facers", None, some_kinds(), {A: "zero"}, [(OUT, (A, 0))])

    def test_no_facer(self):
        self.refused("facer", 0, some_kinds(), [[A, "zero"]], [(OUT, (A, 0))])
        self.refused("facer", 1, some_kinds(), [(A, "zero"), (B, "zero", 0)])
        self.refused("facer", 1, some_kinds(), [(A, "zero"), (B,)])
        for thing in odd_things():
            if not (isinstance(thing, tuple) and len(thing) == 2):
                self.refused("facer", 2, some_kinds(), [(A, "zero"), (B, "zero"), thing, None], None)

    def test_no_who(self):
        for thing in [(), "a", ["a"], ("a", True), ("a", 12), *odd_things()]:
            self.refused("who", 0, some_kinds(), [(thing, "zero")])
            self.refused("who", 1, some_kinds(), [(A, "zero"), (thing, "none"), None], None)

    def test_again(self):
        for one, other in (((A, A)), (A, ("a", 0)), (("a", 0), A), (A, ("a", 3, 4)), (("a", 3, 4), A),
                           (("a", 1), ("a", 1)), (("a", 1), ("a", 1, 2)), (("a", 1, 2), ("a", 1))):
            self.refused("again", other, some_kinds(), [(one, "zero"), (other, "zero"), None], None)
            self.refused("again", other, some_kinds(), [(("b", 5), "zero"), (one, "zero"), (other, "none")])

    def test_unlike_whos_none_of_which_begins_another(self):
        whos = [("a", 1, 2), ("a", 1, 1), ("a", 2), ("aa",), ("a", 10), ("a", 11, 1), ("b",), ("a", 0, 1, 2)]
        for row in itertools.permutations(whos, 3):
            self.assertEqual(len(alone(*row)), 3)
        self.assertEqual(len(alone(*whos)), 8)

    def test_again_is_found_wherever_it_stands(self):
        whos = [("a", 1, 2), ("b",), ("a", 0), ("c", 4), ("a", 2, 1, 1)]
        for who in (("a",), ("a", 1), ("a", 1, 2), ("a", 1, 2, 0), ("b", 0), ("b",), ("a", 0, 0), ("c",), ("a", 2, 1)):
            for at in range(6):
                row = [(one, "zero") for one in whos[:at]] + [(who, "zero")] + [(one, "zero") for one in whos[at:]]
                clash = [one for place, (one, _) in enumerate(row) if any(
                    one[:len(ahead)] == ahead or ahead[:len(one)] == one for ahead, _ in row[:place])]
                self.refused("again", clash[0], some_kinds(), row)

    def test_no_kind(self):
        for thing in ["mul", "", None, ("zero",), *odd_things()]:
            self.refused("kind", A, some_kinds(), [(A, thing), None], None)
        self.refused("kind", B, some_kinds(), [(A, "zero"), (B, "none")], [])
        self.refused("kind", A, Kinds({}), [(A, "zero")])

    def test_of_each_in_turn(self):
        self.refused("kind", A, some_kinds(), [(A, "none"), None])
        self.refused("facer", 0, some_kinds(), [None, (A, "none")])
        self.refused("again", A, some_kinds(), [(A, "zero"), (A, "none"), (B, "none")])
        self.refused("who", 1, some_kinds(), [(A, "zero"), (None, "none"), (A, "zero")])


class NoTies(Refused):
    def test_no_list_of_ties(self):
        for thing in odd_things():
            if not isinstance(thing, (list, tuple)):
                self.refused("ties", None, some_kinds(), [(A, "zero")], thing)
        self.refused("ties", None, some_kinds(), [], {OUT: IN})

    def test_no_tie(self):
        for thing in odd_things():
            if not (isinstance(thing, tuple) and len(thing) == 2):
                self.refused("tie", 0, some_kinds(), [], [thing])
                self.refused("tie", 1, some_kinds(), [(A, "zero")], [(OUT, (A, 0)), thing, None])
        self.refused("tie", 0, some_kinds(), [], [[OUT, IN]])
        self.refused("tie", 0, some_kinds(), [], [(OUT, IN, OUT)])

    def test_no_end(self):
        none = [(A, 3), (A, -1), (A, True), (A, False), (B, 0), (("a", 0), 0), ((), 0), ((), "A"), ((), "l1"), (A, "a"),
                [A, 0], A, ([], "out"), (["a"], 0), (A, 0, 0)]
        for thing in [*none, *odd_things()]:
            self.refused("end", 0, some_kinds(), [(A, "add")], [(thing, OUT), None])
            self.refused("end", 0, some_kinds(), [(A, "add")], [(OUT, thing), None])
            self.refused("end", 1, some_kinds(), [(A, "add")], [(OUT, (A, 0)), (IN, thing)])

    def test_a_truth_is_no_place_in_an_end(self):
        self.refused("end", 0, some_kinds(), [(("a", 1), "zero")], [((("a", True), 0), OUT)])
        self.refused("end", 0, some_kinds(), [(("a", 0), "zero")], [(OUT, (("a", False), 0))])

    def test_a_truth_is_no_hand(self):
        self.refused("end", 1, some_kinds(), [(A, "succ")], [(OUT, (A, 0)), (IN, (A, True))])
        self.refused("end", 1, some_kinds(), [(A, "succ")], [(OUT, (A, 1)), ((A, False), IN)])

    def test_hands_by_the_kind(self):
        self.refused("end", 0, some_kinds(), [(A, "zero")], [(OUT, (A, 1))])
        self.refused("end", 0, some_kinds(), [(A, "succ")], [(OUT, (A, 2))])

    def test_twice(self):
        self.refused("twice", OUT, some_kinds(), [], [(OUT, IN), (((), "a"), OUT)])
        self.refused("twice", OUT, some_kinds(), [], [(IN, OUT), (OUT, ((), "a"))])
        self.refused("twice", (A, 1), some_kinds(), [(A, "add")], [((A, 0), (A, 1)), ((A, 1), (A, 2))])
        self.refused("twice", (A, 0), some_kinds(), [(A, "add")], [((A, 0), (A, 1)), ((A, 2), (A, 0)), None])

    def test_twice_in_one_tie(self):
        self.refused("twice", OUT, some_kinds(), [], [(OUT, OUT)])
        self.refused("twice", (A, 0), some_kinds(), [(A, "zero")], [((A, 0), (A, 0))])
        self.refused("twice", (A, 1), some_kinds(), [(A, "add")], [((A, 1), (A, 1))])

    def test_the_first_end_goes_ahead_of_the_second(self):
        self.refused("twice", OUT, some_kinds(), [], [(OUT, IN), (OUT, None)])
        self.refused("end", 1, some_kinds(), [], [(OUT, IN), (None, OUT)])
        self.refused("twice", OUT, some_kinds(), [], [(OUT, IN), (OUT, IN)])
        self.refused("twice", IN, some_kinds(), [], [(OUT, IN), (IN, OUT)])

    def test_of_each_in_turn(self):
        self.refused("twice", OUT, some_kinds(), [(A, "zero")], [(OUT, OUT), None])
        self.refused("end", 0, some_kinds(), [(A, "zero")], [(OUT, None), (OUT, OUT)])
        self.refused("tie", 0, some_kinds(), [(A, "zero")], [None, (OUT, None)])

    def test_untied(self):
        self.refused("untied", (A, 0), some_kinds(), [(A, "zero")])
        self.refused("untied", (A, 1), some_kinds(), [(A, "add")], [(OUT, (A, 0))])
        self.refused("untied", (A, 2), some_kinds(), [(A, "add")], [((A, 0), (A, 1))])
        self.refused("untied", (B, 0), some_kinds(), [(A, "zero"), (B, "zero")], [(OUT, (A, 0))])

    def test_the_least_untied(self):
        facers = [(B, "add"), (("a", 10), "zero"), (("a", 9), "succ")]
        self.refused("untied", (("a", 9), 0), some_kinds(), facers)
        self.refused("untied", (("a", 9), 1), some_kinds(), facers, [(OUT, (("a", 9), 0))])
        self.refused("untied", (("a", 10), 0), some_kinds(), facers, [((("a", 9), 1), (("a", 9), 0))])
        self.refused("untied", (B, 0), some_kinds(), [(("c",), "zero"), (B, "zero")], [])

    def test_facers_go_ahead_of_ties_and_these_of_what_is_untied(self):
        self.refused("facer", 1, some_kinds(), [(A, "zero"), None], 5)
        self.refused("ties", None, some_kinds(), [(A, "zero")], 5)
        self.refused("tie", 0, some_kinds(), [(A, "zero")], [5])
        self.refused("twice", IN, some_kinds(), [(A, "zero")], [(IN, IN)])


class Kept(unittest.TestCase):
    def test_what_is_handed_in_stays_and_has_no_bearing_later(self):
        facers, ties = list(FACERS), list(TIES)
        web = Web(some_kinds(), facers, ties)
        self.assertEqual((facers, ties), (FACERS, TIES))
        facers.clear()
        ties.append((OUT, OUT))
        self.assertEqual(web, some_web())
        self.assertEqual(web.facers(), [(A, "add"), (B, "succ")])
        self.assertEqual(web.ties(), RISING)

    def test_what_is_refused_stays(self):
        facers, ties = list(FACERS), [*TIES, (OUT, OUT)]
        self.assertRaises(NoWeb, Web, some_kinds(), facers, ties)
        self.assertEqual((facers, ties), (FACERS, [*TIES, (OUT, OUT)]))

    def test_told_lists_belong_to_whoever_asked(self):
        web = some_web()
        for told in (web.facers, web.ties, web.outers):
            row = told()
            row.append(None)
            row.pop(0)
            self.assertIsNot(told(), told())
        self.assertEqual(web.facers(), [(A, "add"), (B, "succ")])
        self.assertEqual(web.ties(), RISING)
        self.assertEqual(web.outers(), ["far", "in", "out"])
        self.assertEqual(web, some_web())

    def test_told_rows_are_made_of_tuples(self):
        web = some_web()
        for row in (web.facers(), web.ties()):
            self.assertEqual([type(one) for one in row], [tuple] * len(row))

    def test_what_came_back_may_be_handed_in(self):
        web = some_web()
        self.assertEqual(Web(web.kinds(), web.facers(), web.ties()), web)

    def test_a_great_web(self):
        whos = [("a",) + (3,) * depth + (number,) for depth in range(200) for number in (1, 2)]
        facers = [(who, "zero") for who in whos]
        ties = [((one, 0), (other, 0)) for one, other in zip(whos[::2], whos[1::2])]
        web = Web(some_kinds(), facers, ties)
        self.assertEqual((len(web), web.mate((whos[0], 0))), (400, (whos[1], 0)))
        with self.assertRaises(NoWeb) as caught:
            Web(some_kinds(), [*facers, (("a",) + (3,) * 200, "zero"), (("a",) + (3,) * 100, "zero")], ties)
        self.assertEqual((caught.exception.what, caught.exception.who), ("again", ("a",) + (3,) * 100))


if __name__ == "__main__":
    unittest.main()
