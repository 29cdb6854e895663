"""Point 20, samples: COUNTING, and the numbers of values. The values of sums and products."""

import unittest

from onefacers.booktexts import book_text, read_book
from onefacers.heaps import behind, whole
from onefacers.samples import COUNTING, number_text
from onefacers.values import come_to, value_at
from onefacers.webs import Web
from tests.things import odd_things
from tests.worlds import sum_web, whos

HANDS = {"zero": 0, "succ": 1, "add": 2, "mul": 2, "dup": 2, "era": 0}


class Reckoning:
    """A web in which numbers are added, taken times, doubled and taken away."""

    def __init__(self):
        self.facers = []
        self.ties = []

    def facer(self, word):
        who = ("f" + "abcdefghijklmnopqrstuvwxyz"[len(self.facers) // 12], len(self.facers) % 12)
        self.facers.append((who, word))
        return who

    def number(self, many):
        """The end at which a number is."""
        top = self.facer("zero")
        for _ in range(many):
            who = self.facer("succ")
            self.ties.append(((who, 1), (top, 0)))
            top = who
        return (top, 0)

    def of_two(self, word, one, other):
        """The end at which is what comes of two numbers."""
        who = self.facer(word)
        self.ties += [((who, 0), one), ((who, 1), other)]
        return (who, 2)

    def twice(self, one):
        """The two ends at which a number is then."""
        who = self.facer("dup")
        self.ties.append(((who, 0), one))
        return (who, 1), (who, 2)

    def away(self, one):
        self.ties.append(((self.facer("era"), 0), one))

    def told(self, **ends):
        """The numbers that come at ends, and how many facers are left."""
        book = read_book(COUNTING)
        web = Web(book.kinds(), self.facers, self.ties + [(((), name), end) for name, end in ends.items()])
        last = behind(book, web, whole(book, web))
        for name in ends:
            assert value_at(last, name) == come_to(book, web, name)[0]
        return {name: number_text(value_at(last, name)) for name in ends}, len(last)


class Counting(unittest.TestCase):
    def test_a_books_text(self):
        self.assertIsInstance(COUNTING, str)
        self.assertEqual(book_text(read_book(COUNTING)), COUNTING)

    def test_just_six_kinds(self):
        kinds = read_book(COUNTING).kinds()
        self.assertEqual({word: kinds.hands(word) for word in kinds.words()}, HANDS)

    def test_just_these_rules(self):
        book = read_book(COUNTING)
        pairs = {frozenset(rule[:2]) for rule in book.rules()}
        self.assertEqual(pairs, {frozenset((one, other)) for one in ("zero", "succ") for other in ("add", "mul", "dup", "era")})
        self.assertEqual(len(book), 8)
        for one, other in (("zero", "succ"), ("zero", "zero"), ("succ", "succ"), ("add", "mul"), ("era", "dup")):
            self.assertIsNone(book.rule(one, other))

    def test_sums(self):
        for one in range(6):
            for other in range(6):
                web = Reckoning()
                told = web.told(out=web.of_two("add", web.number(one), web.number(other)))
                self.assertEqual(told, ({"out": one + other}, one + other + 1))

    def test_products(self):
        for one in range(5):
            for other in range(5):
                web = Reckoning()
                told = web.told(out=web.of_two("mul", web.number(one), web.number(other)))
                self.assertEqual(told, ({"out": one * other}, one * other + 1))

    def test_a_number_twice(self):
        for many in range(8):
            web = Reckoning()
            one, other = web.twice(web.number(many))
            self.assertEqual(web.told(one=one, other=other), ({"one": many, "other": many}, 2 * many + 2))

    def test_a_number_taken_away(self):
        for many in range(8):
            web = Reckoning()
            web.away(web.number(many))
            self.assertEqual(web.told(rest=web.number(1)), ({"rest": 1}, 2))

    def test_one_behind_another(self):
        web = Reckoning()
        one, other = web.twice(web.of_two("add", web.number(1), web.number(2)))
        square = web.of_two("mul", one, other)
        self.assertEqual(web.told(out=web.of_two("add", web.number(4), square)), ({"out": 13}, 14))
        web = Reckoning()
        one, other = web.twice(web.of_two("mul", web.number(2), web.number(3)))
        web.away(other)
        self.assertEqual(web.told(out=web.of_two("mul", one, web.number(0))), ({"out": 0}, 1))

    def test_just_what_is_needed(self):
        book = read_book(COUNTING)
        self.assertEqual(come_to(book, sum_web("add", 0, 3), "out"), ("succ(succ(succ(zero)))", whos("a")))
        self.assertEqual(come_to(book, sum_web("mul", 0, 3), "out"), ("zero", whos("a")))


class NumberText(unittest.TestCase):
    def test_numbers(self):
        for many in (0, 1, 2, 7, 200, 2400):
            self.assertEqual(number_text("succ(" * many + "zero" + ")" * many), many)
        self.assertEqual(number_text(value="succ(zero)"), 1)

    def test_other_texts(self):
        for text in ("", "?", "succ", "succ()", "succ(?)", "succ(zero", "succ(zero))", "succzero)", "(zero)", "zero()",
                     "zero(zero)", "succ(succ)", "zero(succ)", "succ(zero) ", " zero", "zero\n", "Zero", "zeros",
                     "succ(zero,zero)", "succ(succ(zero)", "succ((zero))", "succ zero", "era", "dup(zero,?)", "0", "1",
                     "succ(era)", "suc(zero)", "succ(succ(zeros))", "))zero((", ")zero(", "zerozero", "succ(zero)zero"):
            self.assertEqual(number_text(text), -1, text)
        for thing in odd_things():
            self.assertEqual(number_text(thing), -1)


if __name__ == "__main__":
    unittest.main()
