"""Point 11: a book's text."""

import unittest

from onefacers.books import Book
from onefacers.booktexts import book_text, read_book
from onefacers.errors import NoText
from onefacers.kinds import Kinds
from tests.test_books import PLAIN, rule_of, some_book
from tests.things import odd_things, some_kinds

TEXT = """kind add 0 1
kind dup 0 0
kind succ 0
kind zero
rule succ add succ add
tie l1 1:0
tie r1 1:1
tie r2 0:0
tie 0:1 1:2
rule zero zero
"""

TENS = """kind add 0 1 1 2 3 4
kind zero
rule zero add zero zero zero zero zero zero zero zero zero add
tie r1 0:0
tie r2 1:0
tie r3 2:0
tie r4 3:0
tie r5 4:0
tie r6 9:6
tie 5:0 9:0
tie 6:0 9:1
tie 7:0 9:2
tie 8:0 9:3
tie 9:4 9:5
"""

ELEVENS = """kind succ 0
kind zero
rule zero zero succ zero zero zero zero zero zero zero zero zero succ zero
tie 0:0 10:1
tie 0:1 1:0
tie 2:0 11:0
tie 3:0 4:0
tie 5:0 6:0
tie 7:0 8:0
tie 9:0 10:0
"""


class Written(unittest.TestCase):
    def test_a_book(self):
        self.assertEqual(book_text(some_book()), TEXT)
        self.assertEqual(book_text(book=some_book()), TEXT)

    def test_the_book_of_nothing(self):
        self.assertEqual(book_text(Book(Kinds({}))), "")

    def test_each_rule_has_its_own_ties(self):
        rules = [rule_of("zero", "succ", "zero", "r1 0:0"), rule_of("dup", "zero", "", "l1 l2"),
                 rule_of("dup", "dup", "", "l1 r2, l2 r1"), PLAIN]
        book = Book(some_kinds(), rules)
        text = ("kind add 0 1\nkind dup 0 0\nkind succ 0\nkind zero\nrule dup dup\ntie l1 r2\ntie l2 r1\n"
                "rule dup zero\ntie l1 l2\nrule zero succ zero\ntie r1 0:0\nrule zero zero\n")
        self.assertEqual(book_text(book), text)
        self.assertEqual(read_book(text), book)

    def test_kinds_without_rules(self):
        kinds = Kinds({"b": (), "a": (0, 1, 2, 3, 4, 5)})
        self.assertEqual(book_text(Book(kinds)), "kind a 0 1 2 3 4 5\nkind b\n")

    def test_rules_rise(self):
        rules = [rule_of("zero", "zero"), rule_of("zero", "succ", "zero", "r1 0:0"), rule_of("dup", "zero", "", "l1 l2")]
        rows = [row for row in book_text(Book(some_kinds(), rules)).split("\n") if row.startswith("rule")]
        self.assertEqual(rows, ["rule dup zero", "rule zero succ zero", "rule zero zero"])


class Read(unittest.TestCase):
    def refused(self, text):
        with self.assertRaises(NoText, msg=repr(text)):
            read_book(text)

    def test_read_is_what_was_written(self):
        self.assertEqual(read_book(TEXT), some_book())
        self.assertEqual(read_book(text=TEXT), some_book())
        for text in (TEXT, TENS, ELEVENS, "kind a\n", "kind a 0 1 2 3 4 5\nkind b\n"):
            self.assertEqual(book_text(read_book(text)), text)
        self.assertEqual(read_book(TENS).rule("add", "zero")[2], ("zero",) * 9 + ("add",))

    def test_the_text_without_signs(self):
        self.assertEqual(read_book(""), Book(Kinds({})))

    def test_line_feeds(self):
        for text in (TEXT[:-1], TEXT + "\n", "\n" + TEXT, "\n", TEXT.replace("\n", "\n\n", 1), TEXT.replace("\n", "\r\n"),
                     TEXT.replace("\n", " "), "kind a"):
            self.refused(text)

    def test_rows_out_of_order(self):
        for whole in (TEXT, ELEVENS, TENS):
            rows = whole.splitlines(True)
            for at in range(len(rows) - 1):
                row = list(rows)
                row[at], row[at + 1] = row[at + 1], row[at]
                self.refused("".join(row))

    def test_rows_left_out_and_told_twice(self):
        rows = TEXT.splitlines(True)
        for at in range(len(rows)):
            if rows[at] not in ("kind dup 0 0\n", "rule zero zero\n"):
                self.refused("".join(rows[:at] + rows[at + 1:]))
            self.refused("".join(rows[:at + 1] + rows[at:]))
        self.refused("kind a\nkind a 0\n")
        self.refused("kind a 0\nkind a\n")

    def test_kinds_behind_rules(self):
        self.refused("rule zero zero\nkind zero\n")
        self.refused("kind a\nrule a a\nkind b\n")

    def test_the_greater_end_first(self):
        for one, other in (("l1 1:0", "1:0 l1"), ("0:1 1:2", "1:2 0:1")):
            self.refused(TEXT.replace(one, other))

    def test_numbers_with_noughts_ahead(self):
        for one, other in (("succ 0", "succ 00"), ("0 1", "0 01"), ("0:1", "00:1"), ("0:1", "0:01"), ("l1", "l01"),
                           ("1:2", "+1:2"), ("0 1", "0 +1")):
            self.refused(TEXT.replace(one, other, 1))

    def test_blanks(self):
        for text in (TEXT.replace(" ", "  ", 1), " " + TEXT, TEXT.replace("\n", " \n", 1), TEXT.replace(" ", "\t", 1),
                     TEXT.replace("kind zero\n", "kind zero \n"), TEXT.replace("rule zero zero\n", "rule zero zero \n")):
            self.refused(text)

    def test_words(self):
        for one, other in (("kind", "Kind"), ("kind", "kinds"), ("kind zero", "kind"), ("rule zero zero", "rule zero"),
                           ("rule zero zero", "rule"), ("rule zero zero", "rule mul zero"), ("tie", "ties"),
                           ("tie", "facer"), ("tie l1 1:0", "tie l1"), ("tie l1 1:0", "tie l1 1:0 1:0"),
                           ("tie l1 1:0", "tie"), ("l1", ":l1"), ("l1", "a1"), ("l1", "l2"), ("r2", "r3"), ("r2", ""),
                           ("0:1", "0:3"), ("0:1", "0:"), ("0:1", ":1"), ("0:1", "0"), ("0:1", "0:1:1"), ("0:1", "5:1"),
                           ("0:1", "x:1"), ("0:1", "0:x"), ("0:1", "0.1"), ("succ add succ add", "succ add succ mul"),
                           ("succ add succ add", "succ add add succ"), ("kind dup 0 0", "kind dup 0 0 0 0 0 0 0"),
                           ("kind dup 0 0", "kind dup 0 2"), ("kind dup 0 0", "kind dup 1 0"),
                           ("kind dup 0 0", "kind dup 0 x"), ("kind dup 0 0", "kind dUp 0 0"),
                           ("kind dup 0 0", "kind abcdefghi 0 0"), ("rule succ add", "rule add succ")):
            self.assertIn(one, TEXT)
            self.refused(TEXT.replace(one, other, 1))

    def test_ties_without_a_rule(self):
        self.refused("tie l1 l2\n")
        self.refused("kind a\ntie l1 l2\n")

    def test_no_book(self):
        self.refused("kind a 0\nrule a a a\ntie l1 0:0\ntie r1 0:1\n")
        self.refused("kind a\nrule a a\nrule a a\n")
        self.refused("kind a\nkind b\nrule a b\nrule b a\n")
        self.refused("".join(f"kind {letter}\n" for letter in "abcdefghijklm"))
        self.assertEqual(len(read_book("".join(f"kind {letter}\n" for letter in "abcdefghijkl")).kinds()), 12)

    def test_each_sign_counts(self):
        for at in range(len(TEXT)):
            for sign in ("", "x", ".", ":", "0", " ", "\n", "~", TEXT[at] * 2):
                text = TEXT[:at] + sign + TEXT[at + 1:]
                try:
                    book = read_book(text)
                except NoText:
                    continue
                self.assertEqual(book_text(book), text)

    def test_of_anything(self):
        for thing in odd_things():
            if not (isinstance(thing, str) and thing == ""):
                with self.assertRaises(NoText):
                    read_book(thing)
        self.refused(TEXT.encode())
        self.refused([TEXT])

    def test_a_rule_of_nothing(self):
        self.assertEqual(read_book("kind zero\nrule zero zero\n"), Book(Kinds({"zero": ()}), [PLAIN]))


if __name__ == "__main__":
    unittest.main()
