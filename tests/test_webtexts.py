"""Point 8: a web's text, WHOS and ends as texts."""

import unittest

from onefacers.errors import NoText
from onefacers.kinds import Kinds
from onefacers.webs import Web
from onefacers.webtexts import end_text, read_web, web_text, who_of, who_text
from tests.things import odd_things, some_kinds

TEXT = """facer a.2 zero
facer a.10 succ
facer b.3.0 add
tie :far a.10:1
tie :out b.3.0:1
tie a.2:0 b.3.0:0
tie a.10:0 b.3.0:2
"""


def some_web():
    tens, twos, three = ("a", 10), ("a", 2), ("b", 3, 0)
    return Web(some_kinds(), [(three, "add"), (tens, "succ"), (twos, "zero")], [
        ((three, 0), (twos, 0)), (((), "out"), (three, 1)), ((three, 2), (tens, 0)), ((tens, 1), ((), "far"))])


class Written(unittest.TestCase):
    def test_whos(self):
        self.assertEqual(who_text(("a",)), "a")
        self.assertEqual(who_text(("a", 3, 0)), "a.3.0")
        self.assertEqual(who_text(who=("abcdefgh", 11, 10, 9)), "abcdefgh.11.10.9")

    def test_ends(self):
        self.assertEqual(end_text((("a", 3, 0), 2)), "a.3.0:2")
        self.assertEqual(end_text((("b",), 0)), "b:0")
        self.assertEqual(end_text(end=((), "out")), ":out")

    def test_a_web(self):
        self.assertEqual(web_text(some_web()), TEXT)
        self.assertEqual(web_text(web=some_web()), TEXT)

    def test_the_web_of_nothing(self):
        self.assertEqual(web_text(Web(some_kinds())), "")

    def test_ties_of_outer_ends_and_of_one_facer(self):
        web = Web(some_kinds(), [(("a",), "succ")], [((("a",), 1), (("a",), 0)), (((), "z"), ((), "b"))])
        self.assertEqual(web_text(web), "facer a succ\ntie :b :z\ntie a:0 a:1\n")
        self.assertEqual(read_web(some_kinds(), web_text(web)), web)


class WhosRead(unittest.TestCase):
    def test_whos(self):
        for who in (("a",), ("a", 3, 0), ("abcdefgh", 11, 10, 9), ("a",) + (7,) * 200):
            self.assertEqual(who_of(who_text(who)), who)
        self.assertEqual(who_of(text="a.3.0"), ("a", 3, 0))

    def test_places_are_whole_numbers(self):
        self.assertEqual([type(part) for part in who_of("a.1.0")], [str, int, int])

    def test_no_whos(self):
        for text in ("", ".", "a.", ".a", "a..0", "a.0.", "a.12", "a.00", "a.01", "a.b", "a.-1", "a.+1", "a. 1", "a.1 ",
                     " a", "a ", "a\n", "a.1\n", "A", "abcdefghi", "1", "1.a", "a:0", "a,0", "a.1_0", "a.1.x", "a0",
                     "a." + "9" * 5000, "a.\u0661", "a.\u00b2"):
            with self.assertRaises(NoText, msg=repr(text)):
                who_of(text)

    def test_of_anything(self):
        for thing in odd_things():
            if not (isinstance(thing, str) and thing == "a.3"):
                self.assertRaises(NoText, who_of, thing)


class WebsRead(unittest.TestCase):
    def refused(self, text):
        with self.assertRaises(NoText, msg=repr(text)):
            read_web(some_kinds(), text)

    def test_read_is_what_was_written(self):
        self.assertEqual(read_web(some_kinds(), TEXT), some_web())
        self.assertEqual(read_web(kinds=some_kinds(), text=TEXT), some_web())
        self.assertEqual(web_text(read_web(some_kinds(), TEXT)), TEXT)

    def test_the_text_without_signs(self):
        self.assertEqual(read_web(some_kinds(), ""), Web(some_kinds()))
        self.assertEqual(read_web(Kinds({}), ""), Web(Kinds({})))

    def test_line_feeds(self):
        for text in (TEXT[:-1], TEXT + "\n", "\n" + TEXT, "\n", TEXT.replace("\n", "\n\n", 1), TEXT.replace("\n", "\r\n"),
                     TEXT.replace("\n", " "), TEXT.replace("\n", "\r")):
            self.refused(text)

    def test_rows_out_of_order(self):
        rows = TEXT.splitlines(True)
        for at in range(len(rows) - 1):
            row = list(rows)
            row[at], row[at + 1] = row[at + 1], row[at]
            self.refused("".join(row))
        self.refused("".join(rows[3:] + rows[:3]))

    def test_rows_left_out_and_told_twice(self):
        rows = TEXT.splitlines(True)
        for at in range(len(rows)):
            if at != 4:
                self.refused("".join(rows[:at] + rows[at + 1:]))
            self.refused("".join(rows[:at + 1] + rows[at:]))

    def test_the_greater_end_first(self):
        self.refused("tie :b :a\n")
        self.refused(TEXT.replace("a.2:0 b.3.0:0", "b.3.0:0 a.2:0"))
        self.assertEqual(read_web(some_kinds(), "tie :a :b\n").outers(), ["a", "b"])

    def test_numbers_with_noughts_ahead(self):
        self.refused(TEXT.replace("b.3.0:1", "b.3.0:01"))
        self.refused(TEXT.replace("a.2", "a.02"))
        self.refused(TEXT.replace("b.3.0", "b.3.00"))
        self.refused(TEXT.replace("a.2:0", "a.2:00"))
        self.refused(TEXT.replace("b.3.0:1", "b.3.0:+1"))

    def test_blanks(self):
        for text in (TEXT.replace(" ", "  ", 1), " " + TEXT, TEXT.replace("\n", " \n", 1), TEXT.replace(" ", "\t", 1),
                     TEXT.replace("a.2:0 ", "a.2:0"), TEXT.replace("facer a", "facera", 1)):
            self.refused(text)

    def test_words(self):
        for text in (TEXT.replace("zero", "mul"), TEXT.replace("zero", "Zero"), TEXT.replace("zero", "zero zero"),
                     TEXT.replace("facer a.2", "facer"), TEXT.replace("facer", "face"), TEXT.replace("facer", "Facer"),
                     TEXT.replace("tie", "ties"), TEXT.replace("tie", "", 1), TEXT.replace(":out", "out"),
                     TEXT.replace(":out", ":Out"), TEXT.replace(":out", ":out:"), TEXT.replace(":out", "::out"),
                     TEXT.replace(":out", ":"), TEXT.replace(":far", ":out"), TEXT.replace("b.3.0:1", "b.3.0"),
                     TEXT.replace("b.3.0:1", "b.3.0:"), TEXT.replace("b.3.0:1", "b.3.0:3"), "kind a\n", "facer a zero\n",
                     "tie a:0 a:1\n", TEXT + "kind a\n", TEXT + "facer\n", TEXT + "tie :a :a\n", "x :a :b\n"):
            self.refused(text)

    def test_each_sign_counts(self):
        for at in range(len(TEXT)):
            for sign in ("", "x", ".", ":", "0", " ", "\n", "~", TEXT[at] * 2):
                text = TEXT[:at] + sign + TEXT[at + 1:]
                try:
                    web = read_web(some_kinds(), text)
                except NoText:
                    continue
                self.assertEqual(web_text(web), text)

    def test_other_kinds(self):
        self.assertRaises(NoText, read_web, Kinds({}), TEXT)
        self.assertRaises(NoText, read_web, Kinds({"zero": (), "succ": (0,), "add": (0,)}), TEXT)
        self.assertRaises(NoText, read_web, Kinds({"zero": (0,), "succ": (0,), "add": (0, 1)}), TEXT)
        kinds = Kinds({"zero": (), "succ": (0,), "add": (0, 0)})
        self.assertEqual(read_web(kinds, TEXT), Web(kinds, some_web().facers(), some_web().ties()))

    def test_of_anything(self):
        for thing in odd_things():
            if not (isinstance(thing, str) and thing == ""):
                with self.assertRaises(NoText):
                    read_web(some_kinds(), thing)
        self.refused(TEXT.encode())
        self.refused([TEXT])


if __name__ == "__main__":
    unittest.main()
