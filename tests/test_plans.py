"""Point 24: PLANS."""

import itertools
import random
import unittest

from onefacers.errors import TooMany
from onefacers.kinds import Kinds
from onefacers.plans import is_plan, plan_of
from onefacers.webs import Web
from onefacers.webtexts import web_text
from tests.rounds import is_plan_by_trying, lotted_kinds, lotted_web, lotted_world, may_be_first, rings_of
from tests.things import odd_things, some_kinds
from tests.worlds import counts, sum_web, web_in, whos

TABLE = {"both": (0, 0), "each": (0, 1), "era": (), "four": (0, 0, 1, 1), "one": (0,)}


def web_of(facers, ties=""):
    return web_in(Kinds(TABLE), facers, ties)


def chain(many):
    """So many in a row, each one's face at the next one's hand."""
    names = [("a", number // 144, number // 12 % 12, number % 12) for number in range(many)]
    ties = [((one, 0), (other, 1)) for one, other in zip(names, names[1:])]
    ties += [((names[0], 1), ((), "in")), ((names[-1], 0), ((), "out"))]
    return Web(Kinds(TABLE), [(who, "one") for who in names], ties), names


class Plans(unittest.TestCase):
    def plans(self, web, *told):
        """Just these are plans, of all orders, and one of them is told where there is one."""
        found = [who for who, _ in web.facers()]
        told = [whos(text) for text in told]
        for row in itertools.permutations(found):
            self.assertIs(is_plan(web, list(row)), list(row) in told)
            self.assertIs(is_plan(web, row), list(row) in told)
        plan = plan_of(web)
        if told:
            self.assertIsInstance(plan, list)
            self.assertIn(plan, told)
        else:
            self.assertIsNone(plan)

    def test_a_web_without_facers(self):
        for web in (web_of(""), web_of("", ":p :q")):
            self.assertEqual(plan_of(web), [])
            self.assertIs(is_plan(web, []), True)
            self.assertIs(is_plan(web, ()), True)
            self.assertIs(is_plan(web, [("a",)]), False)

    def test_one_facer(self):
        self.plans(web_of("a era", "a:0 :p"), "a")
        self.plans(web_of("a each", "a:0 :p, a:1 :q, a:2 :r"), "a")

    def test_ends_of_one_facer_tied_to_each_other(self):
        # Of one lot, of unlike lots, the face and a hand.
        self.plans(web_of("a both", "a:0 :p, a:1 a:2"), "a")
        self.plans(web_of("a each", "a:0 :p, a:1 a:2"))
        self.plans(web_of("a both", "a:0 a:1, a:2 :p"))
        self.plans(web_of("a four", "a:0 :p, a:1 a:2, a:3 a:4"), "a")
        self.plans(web_of("a four", "a:0 :p, a:1 a:3, a:2 a:4"))

    def test_two_ends_at_one_facer(self):
        # Where one has them at one lot, it has to be ahead.
        self.plans(web_of("a both, b each", "a:0 :p, a:1 b:1, a:2 b:2, b:0 :q"), "a b")
        self.plans(web_of("a both, b both", "a:0 :p, a:1 b:1, a:2 b:2, b:0 :q"), "a b", "b a")
        self.plans(web_of("a each, b each", "a:0 :p, a:1 b:1, a:2 b:2, b:0 :q"))
        self.plans(web_of("a both, b each", "a:0 b:0, a:1 b:1, a:2 b:2"))
        self.plans(web_of("a one, b one", "a:0 b:0, a:1 b:1"))
        self.plans(web_of("a one, b one", "a:0 b:1, a:1 b:0"))
        self.plans(web_of("a one, b one", "a:0 b:0, a:1 :p, b:1 :q"), "a b", "b a")

    def test_at_facers_that_hang_together(self):
        # a's hands are of one lot; b and c hang together by a tie, and by d.
        self.plans(web_of("a both, b one, c one", "a:0 :p, a:1 b:0, a:2 c:0, b:1 c:1"), "a b c", "a c b")
        self.plans(web_of("a each, b one, c one", "a:0 :p, a:1 b:0, a:2 c:0, b:1 c:1"))
        self.plans(web_of("a both, b one, c one, d each", "a:0 :p, a:1 b:0, a:2 c:0, b:1 d:1, c:1 d:2, d:0 :q"),
                   *["a " + " ".join(row) for row in itertools.permutations("bcd")])

    def test_whoever_is_ahead_is_not_there(self):
        # Without d, b and c do not hang together; d has its two ends at one lot.
        self.plans(web_of("a each, b one, c one, d both", "a:0 :p, a:1 b:0, a:2 c:0, b:1 d:1, c:1 d:2, d:0 :q"),
                   *["d " + " ".join(row) for row in itertools.permutations("abc")])

    def test_outer_ends_hang_nothing_together(self):
        self.plans(web_of("a each, b era", "a:0 b:0, a:1 :p, a:2 :q"), "a b", "b a")

    def test_of_numbers(self):
        web = sum_web("mul", 2, 2)
        plan = plan_of(web)
        self.assertEqual(sorted(plan), [who for who, _ in web.facers()])
        self.assertIs(is_plan(web, plan), True)
        self.assertIs(is_plan(web=web, thing=tuple(plan)), True)
        self.assertEqual(plan_of(web=web), plan)

    def test_each_just_once(self):
        web = web_of("a one, b one, c.3 era", "a:0 b:0, a:1 :p, b:1 :q, c.3:0 :r")
        for text in ("", "a", "a b", "b c.3", "a b b", "a a c.3", "a b c.3 c.3", "a b c", "a b c.3 d", "a b d",
                     "a b c.4",
                     "a b c.3.0"):
            self.assertIs(is_plan(web, whos(text)), False)
            self.assertIs(is_plan(web, tuple(whos(text))), False)
        for row in itertools.permutations(whos("a b c.3")):
            self.assertIs(is_plan(web, row), True)

    def test_of_anything(self):
        web = web_of("a.0 one, b one, a.1 era", "a.0:0 b:0, a.0:1 :p, b:1 :q, a.1:0 :r")
        good = whos("a.0 b a.1")
        self.assertIs(is_plan(web, good), True)
        for thing in odd_things():
            self.assertIs(is_plan(web, thing), False)
            self.assertIs(is_plan(web, [*good[:2], thing]), False)
            self.assertIs(is_plan(web, (thing, *good[:2])), False)
            self.assertIs(is_plan(web, [thing]), False)
            self.assertIs(is_plan(web, [*good, thing]), False)
        for thing in ("abc", {who: True for who in good}, set(good), iter(good), [list(who) for who in good], [good],
                      [("a", False), ("b",), ("a", 1)], [("a", 0), ("b",), ("a", True)], {0: ("a", 0)}, range(3)):
            self.assertIs(is_plan(web, thing), False)

    def test_of_anything_for_a_web_without_facers(self):
        for thing in odd_things():
            if thing.__class__ not in (list, tuple) or len(thing) > 0:
                self.assertIs(is_plan(web_of(""), thing), False)


class Limits(unittest.TestCase):
    def test_twenty_four_and_twenty_five(self):
        web, names = chain(24)
        self.assertEqual(sorted(plan_of(web)), names)
        self.assertIs(is_plan(web, plan_of(web)), True)
        for many in (25, 26, 100):
            web, names = chain(many)
            with self.assertRaises(TooMany) as caught:
                plan_of(web)
            self.assertEqual(caught.exception.limit, 24)
            self.assertIs(is_plan(web, names), True)
            self.assertIs(is_plan(web, tuple(names[::-1])), True)
            self.assertIs(is_plan(web, names[1:]), False)

    def test_too_many_whatever_they_are(self):
        for many in (24, 25):
            names = [("a", number // 12, number % 12) for number in range(many)]
            # One ring of all, and another one of the first one alone.
            ties = [((one, 0), (other, 1)) for one, other in zip(names, names[1:] + names[:1])]
            web = Web(Kinds(TABLE), [(who, "one") for who in names], ties)
            self.assertIs(is_plan(web, names), False)
            if many == 24:
                self.assertIsNone(plan_of(web))
            else:
                self.assertRaises(TooMany, plan_of, web)

    def test_a_great_web_is_judged(self):
        web, names = chain(800)
        self.assertIs(is_plan(web, names), True)
        self.assertIs(is_plan(web, names[400:] + names[:400]), True)


class AgainstTrying(unittest.TestCase):
    def test_all_orders(self):
        seen = {True: 0, False: 0}
        for seed in range(250):
            web = lotted_world(seed, 4)
            found = [who for who, _ in web.facers()]
            good = [list(row) for row in itertools.permutations(found) if is_plan_by_trying(web, row)]
            for row in itertools.permutations(found):
                told = list(row) in good
                self.assertIs(is_plan(web, row), told)
                seen[told] += 1
            plan = plan_of(web)
            self.assertTrue(plan in good if good else plan is None)
        self.assertGreater(min(seen.values()), 200)

    def test_a_web_has_a_ring_or_a_plan(self):
        seen = {True: 0, False: 0}
        for seed in range(600):
            web = lotted_world(seed, 7)
            plan = plan_of(web)
            self.assertIs(plan is None, len(rings_of(web)) > 0)
            self.assertTrue(plan is None or is_plan_by_trying(web, plan))
            seen[plan is None] += 1
        self.assertGreater(min(seen.values()), 80)

    def test_whoever_may_be_next_is_never_in_the_way(self):
        seen = 0
        for seed in range(250):
            source = random.Random(seed)
            web = lotted_web(source, lotted_kinds(source), source.randrange(1, 7))
            if plan_of(web) is None:
                continue
            left, plan = [who for who, _ in web.facers()], []
            while left:
                may = [who for who in left if may_be_first(web, who, left)]
                self.assertNotEqual(may, [])
                plan.append(source.choice(may))
                left.remove(plan[-1])
            self.assertIs(is_plan(web, plan), True)
            seen += len(plan) > 2
        self.assertGreater(seen, 15)


class Kept(unittest.TestCase):
    def test_what_is_handed_in_stays(self):
        web = sum_web("add", 1, 1)
        text = web_text(web)
        plan = plan_of(web)
        row = list(plan)
        self.assertIs(is_plan(web, row), True)
        self.assertEqual(row, plan)
        plan.clear()
        self.assertEqual(plan_of(web), row)
        self.assertEqual(web_text(web), text)

    def test_of_webs_of_any_kinds(self):
        self.assertEqual(plan_of(Web(some_kinds())), [])
        self.assertEqual(plan_of(Web(counts().kinds())), [])


if __name__ == "__main__":
    unittest.main()
