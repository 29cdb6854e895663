"""Point 27: the DESK, its rows and what they answer, PLAYINGS, the LOG."""

import unittest

from onefacers.booktexts import book_text
from onefacers.copies import Copy
from onefacers.desk import Desk
from onefacers.errors import (Caused, NoEnd, NoMeeting, NoOne, NoRow, NoSuch, NoText, NoWish, TooMany)
from onefacers.samples import COUNTING
from onefacers.values import come_to
from onefacers.webtexts import web_text
from tests.cases import Case
from tests.things import odd_things
from tests.worlds import FORK, RULES, book_in, counts, endless, many_pairs, sum_web, web_in, whos

A = ("a",)

# Each row that tells no text, of things that a full desk keeps.
ROWS = ("copy d w", "twin d c", "meet c a", "all c", "hear c a", "hear c a c", "pour c e", "back e e", "ready c",
        "heap c",
        "waits c", "causes c a", "length e e", "why c a", "text c", "value c out", "need w meet a", "need w end out",
        "come w out", "beats w 1", "sound w", "keeps b", "same c e")


def full_fork():
    """A web in which a, c and e are ready, and a.0 meets c.0 behind a and c; e's hand is at the OUTER end."""
    book = book_in(FORK, *RULES)
    return book, web_in(book.kinds(), "a one, b era, c one, d era, e one, f era",
                        "a:0 b:0, c:0 d:0, a:1 c:1, e:0 f:0, e:1 :out")


def rows_of(book, web):
    return ["book b\n" + book_text(book), "web w b\n" + web_text(web)]


def desk_of(book, web, *rows):
    """A desk with a book b, a web w and a copy c."""
    desk = Desk()
    for row in [*rows_of(book, web), "copy c w", *rows]:
        desk.say(row)
    return desk


def full():
    """A desk with a copy e, too, at which e stands."""
    return desk_of(*full_fork(), "copy e w", "meet e e")


def kept(desk):
    """All that a desk keeps, as far as it can be asked."""
    books, webs, copies = desk.names()
    told = [(name, desk.say(f"keeps {name}")) for name in books]
    told += [(name, answered(desk, f"sound {name}"), answered(desk, f"beats {name} 2")) for name in webs]
    return desk.names(), told, [(name, desk.copy(name), desk.copy(name).web(),
                                 desk.copy(name).waits()) for name in copies]


def answered(desk, row):
    """The answer, or the refusal and its fields."""
    try:
        return desk.say(row)
    except (NoRow, NoText, NoSuch, NoMeeting, Caused, TooMany, NoEnd, NoWish, NoOne) as refusal:
        return type(refusal), vars(refusal)


class Said(Case):
    def told(self, desk, row, answer):
        said = desk.say(row)
        self.assertIsInstance(said, str)
        self.assertEqual(said, answer)


class Keeping(Said):
    def test_books_webs_and_copies(self):
        desk = Desk()
        self.assertEqual(desk.names(), ([], [], []))
        book, web = full_fork()
        for row in [*rows_of(book, web), "copy c w", "twin d c"]:
            self.told(desk, row, "ok")
        self.assertEqual(desk.names(), (["b"], ["w"], ["c", "d"]))
        for name in ("c", "d"):
            self.assertEqual(desk.copy(name), Copy(book, web))
        self.assertEqual(desk.copy(name="c"), Copy(book, web))

    def test_empty_texts(self):
        desk = Desk()
        self.told(desk, "book b\n", "ok")
        self.told(desk, "web w b\n", "ok")
        self.told(desk, "copy c w", "ok")
        for row, answer in (("text c", ""), ("ready c", ""), ("heap c", ""), ("all c", ""), ("waits c", ""),
                            ("beats w 1", "0"),
                            ("sound w", "yes"), ("keeps b", "yes")):
            self.told(desk, row, answer)

    def test_a_name_in_each_of_the_three_drawers(self):
        book, web = full_fork()
        desk = Desk()
        for row in ("book a\n" + book_text(book), "web a a\n" + web_text(web), "copy a a"):
            self.told(desk, row, "ok")
        self.assertEqual(desk.names(), (["a"], ["a"], ["a"]))
        self.told(desk, "meet a a", "a")
        self.told(desk, "keeps a", "yes")
        self.told(desk, "sound a", "yes")
        self.told(desk, "copy a a", "ok")
        self.told(desk, "heap a", "")

    def test_names_are_rising(self):
        desk = full()
        for row in ("book z\n", "book aa\n", "web v z\n", "web x aa\n", "copy b v", "copy a x", "twin zz c"):
            desk.say(row)
        self.assertEqual(desk.names(), (["aa", "b", "z"], ["v", "w", "x"], ["a", "b", "c", "e", "zz"]))
        self.assertIsInstance(desk.names(), tuple)

    def test_words_of_rows_are_names_too(self):
        desk = Desk()
        for row in ("book book\n", "web web book\n", "copy copy web", "twin all copy", "all all"):
            desk.say(row)
        self.assertEqual(desk.names(), (["book"], ["web"], ["all", "copy"]))

    def test_what_is_kept_anew_by_the_same_name(self):
        desk = full()
        book, web = counts(), sum_web("add", 1, 1)
        self.told(desk, "hear e a z", "a")
        # The web w was told with the book that b was then, and so were the copies of it.
        self.told(desk, "book b\n" + COUNTING, "ok")
        self.told(desk, "beats w 1", "4")
        self.told(desk, "need w meet a.0", "a a.0 c")
        self.told(desk, "copy d w", "ok")
        self.told(desk, "all d", "a a.0 c e")
        self.assertEqual(desk.copy("d").book(), full_fork()[0])
        self.refused(NoText, {}, desk.say, "web w b\n" + web_text(full_fork()[1]))
        self.told(desk, "beats w 1", "4")
        self.told(desk, "web w b\n" + web_text(web), "ok")
        self.told(desk, "come w out", "succ(succ(zero))")
        self.assertEqual(desk.copy("d").first(), full_fork()[1])
        self.told(desk, "heap e", "a e")
        self.told(desk, "waits e", "z")
        self.told(desk, "copy e w", "ok")
        self.assertEqual(desk.copy("e"), Copy(book, web))
        self.assertEqual(desk.names(), (["b"], ["w"], ["c", "d", "e"]))

    def test_twins_are_apart(self):
        desk = full()
        desk.say("hear e z")
        self.told(desk, "twin d e", "ok")
        self.told(desk, "same d e", "yes")
        self.told(desk, "meet d a", "a")
        self.told(desk, "heap e", "e")
        self.told(desk, "back e e", "ok")
        self.told(desk, "heap d", "a e")
        self.told(desk, "waits d", "z")
        self.told(desk, "twin d d", "ok")
        self.told(desk, "heap d", "a e")
        self.told(desk, "twin e d", "ok")
        self.told(desk, "same d e", "yes")

    def test_no_texts(self):
        desk = full()
        ahead = kept(desk)
        for row in ("book b\nkind", "book b\nkind zero", "book b\n\n", "book b\n" + COUNTING[:-1],
                    "book b\n" + COUNTING + "\n", "book d\n ",
                    "web w b\nfacer", "web w b\n\n", "web v b\nfacer a zero\ntie :out a:0\n", "web w b\nfacer a era\n",
                    "web w b\n" + web_text(full_fork()[1])[:-1], "web w b\n" + book_text(full_fork()[0]),
                    "book b\n" + web_text(full_fork()[1]),
                    "book b\nall c"):
            self.refused(NoText, {}, desk.say, row)
        self.assertEqual(kept(desk), ahead)


class Deeds(Said):
    def test_meet_all_hear_pour_and_back(self):
        desk = full()
        for row, answer in (("meet c c", "c"), ("hear c a.0 z", ""), ("waits c", "a.0 z"), ("hear c a", "a a.0"),
                            ("waits c", "z"),
                            ("pour c e", "e"), ("pour c e", ""), ("pour e c", "a a.0 c"), ("same c e", "no"),
                            ("hear e z", ""),
                            ("same c e", "yes"), ("back c e", "ok"), ("back c a.0", "ok"), ("heap c", "a c"),
                            ("all c", "a.0 e"),
                            ("all c", ""), ("pour c c", ""), ("hear c a a.0 a", "")):
            self.told(desk, row, answer)

    def test_hear_of_one_or_more(self):
        desk = full()
        self.told(desk, "hear c " + " ".join(["z"] * 5 + ["c", "a"]), "a c")
        self.told(desk, "hear c a.0", "a.0")
        self.told(desk, "hear c a.11.0.10", "")
        self.told(desk, "waits c", "a.11.0.10 z")

    def test_two_hundred(self):
        book, web = many_pairs(201)
        desk = desk_of(book, web, "copy e w")
        self.refused(TooMany, {"limit": 200}, desk.say, "all c")
        lefts = desk.say("ready c").split(" ")
        self.assertEqual(len(lefts), 201)
        self.told(desk, "hear c " + " ".join(lefts), " ".join(lefts[:200]))
        self.told(desk, "waits c", lefts[200])
        self.refused(TooMany, {"limit": 200}, desk.say, "meet c " + lefts[200])
        self.told(desk, "back c " + lefts[7], "ok")
        self.told(desk, "pour c e", lefts[200])


class Questions(Said):
    def test_of_copies(self):
        desk = full()
        book, web = full_fork()
        for row, answer in (("ready c", "a c e"), ("ready e", "a c"), ("heap c", ""), ("heap e", "e"), ("waits e", ""),
                            ("causes c a", ""), ("why c a", "ready a b"), ("why c b", "ready b a"),
                            ("why e e.0", "outer e.0"),
                            ("text c", web_text(web)), ("value c out", "?"), ("value e out", "era"),
                            ("length e e", "1")):
            self.told(desk, row, answer)
        desk.say("hear c a.0 c a y z")
        for row, answer in (("causes c a.0", "a c"), ("length c a.0", "2"), ("length c c", "1"), ("heap c", "a a.0 c"),
                            ("waits c", "y z"), ("causes c e", ""), ("ready c", "e")):
            self.told(desk, row, answer)
        self.assertEqual(desk.say("text c"), web_text(desk.copy("c").web()))

    def test_why(self):
        book = book_in(FORK, *RULES)
        web = web_in(book.kinds(), "a one, b one, c one, d one, e one, f one",
                     "a:0 b:1, b:0 a:1, c:0 d:1, d:0 e:0, c:1 :p, e:1 f:0, f:1 :q")
        desk = desk_of(book, web)
        for row, answer in (("why c a", "ring a b a"), ("why c c", "ruleless c d e"), ("why c f", "ruleless f e d")):
            self.told(desk, row, answer)

    def test_rising_by_number(self):
        book = book_in({"ping": ()},
                       "ping ping:" + " ping" * 12 + ": " + ", ".join(f"{place}:0 {place + 1}:0" for place in range(0, 12, 2)))
        desk = desk_of(book, web_in(book.kinds(), "b ping, a ping", "b:0 a:0"), "meet c a")
        self.told(desk, "ready c", "a.0 a.2 a.4 a.6 a.8 a.10")
        self.told(desk, "hear c a.10 a.2 a.4 z.10 z.9", "a.2 a.4 a.10")
        self.told(desk, "waits c", "z.9 z.10")

    def test_of_webs(self):
        desk = full()
        for row, answer in (("need w meet a", "a"), ("need w meet a.0", "a a.0 c"), ("need w meet z", "never"),
                            ("need w meet e.0", "never"),
                            ("need w end out", "e"), ("come w out", "era"), ("beats w 1", "4"), ("beats w 2", "2"),
                            ("beats w 3", "2"),
                            ("beats w 99999999999999999999", "2"), ("sound w", "yes"), ("keeps b", "yes")):
            self.told(desk, row, answer)
        # What was done at copies has no bearing.
        desk.say("all c")
        self.told(desk, "need w end out", "e")

    def test_a_need_of_nothing(self):
        book, web = counts(), sum_web("add", 0, 1)
        desk = desk_of(book, web)
        self.told(desk, "meet c a", "a")
        desk.say("web w b\n" + desk.say("text c"))
        self.told(desk, "need w end out", "")
        self.told(desk, "come w out", "succ(zero)")
        self.told(desk, "beats w 7", "0")

    def test_of_numbers(self):
        book, web = counts(), sum_web("mul", 2, 3)
        desk = desk_of(book, web)
        self.told(desk, "come w out", come_to(book, web, "out")[0])
        self.told(desk, "value c out", "?")
        desk.say("all c")
        self.told(desk, "value c out", "succ(" * 6 + "zero" + ")" * 6)

    def test_sound_and_keeps(self):
        book = book_in({"both": (0, 0), "era": (), "one": (0,)}, "both era:: l1 l2")
        for facers, ties, answer in (("a one", "a:0 a:1", "no"), ("a one", "a:0 :p, a:1 :q", "yes"),
                                     ("a both", "a:0 :p, a:1 a:2", "yes"),
                                     ("a both", "a:0 a:1, a:2 :p", "no")):
            desk = desk_of(book, web_in(book.kinds(), facers, ties))
            self.told(desk, "sound w", answer)
            self.told(desk, "keeps b", "no")

    def test_same(self):
        desk = full()
        for row, answer in (("same c c", "yes"), ("same c e", "no"), ("same e c", "no")):
            self.told(desk, row, answer)
        desk.say("meet c e")
        self.told(desk, "same c e", "yes")
        desk.say("hear c z")
        self.told(desk, "same c e", "no")


class NoRows(Said):
    def is_no_row(self, desk, row):
        self.refused(NoRow, {}, desk.say, row)

    def test_each_row_is_one(self):
        for row in ROWS:
            self.assertIsInstance(full().say(row), str)

    def test_with_a_line_feed(self):
        for row in ROWS:
            for other in (row + "\n", "\n" + row, row + "\n\n", row.replace(" ", "\n", 1), row + "\nx",
                          row + "\n" + COUNTING):
                self.is_no_row(full(), other)

    def test_with_two_blanks_or_one_at_an_end(self):
        for row in (*ROWS, "book d\n", "web v b\n"):
            for other in (row.replace(" ", "  "), row.replace(" ", "  ", 1), " " + row, row.replace(" ", "\t"),
                          row.replace(" ", "")):
                self.is_no_row(full(), other)
        for row in ROWS:
            self.is_no_row(full(), row + " ")
        for row in ("book d \n", "web v b \n", "book d\n".upper()):
            self.is_no_row(full(), row)

    def test_a_word_too_many_or_too_few(self):
        for row in ROWS:
            if not row.startswith("hear"):
                self.is_no_row(full(), row + " a")
                self.is_no_row(full(), row + " c")
            words = row.split(" ")
            for at in range(len(words)):
                if row != "hear c a c" or at == 0:
                    self.is_no_row(full(), " ".join(words[:at] + words[at + 1:]))
            self.is_no_row(full(), words[0])
            self.is_no_row(full(), row.upper())
        for row in ("book\n", "book b b\n", "web w\n", "web w b b\n", "hear c", "", "\n", " ", "a", "heaps c", "log",
                    "names", "play", "Heap c"):
            self.is_no_row(full(), row)

    def test_texts_where_there_are_none(self):
        for row in ("book d", "web v b", "book b", "web w b"):
            self.is_no_row(full(), row)

    def test_names(self):
        for row in ("meet C a", "meet c1 a", "meet abcdefghi a", "copy D w", "copy d W", "copy d.1 w", "twin d c.0",
                    "twin D c",
                    "book B\n", "book b1\n", "web W b\n", "web w B\n", "value c Out", "value c :out", "value c out.1",
                    "need w end a:0",
                    "need w end OUT", "need w end :out", "come w ou1", "keeps B", "same c E", "pour C e", "all c.",
                    "book \u00e4\n"):
            self.is_no_row(full(), row)

    def test_whos(self):
        for command in ("meet c", "hear c", "hear c a", "back c", "causes c", "length c", "why c", "need w meet"):
            for who in ("A", "a.", ".a", "a.01", "a.00", "a.12", "a.-1", "a.+1", "a:0", "a.0:0", "0", "1.a", "a.a",
                        "abcdefghi", "a..0", "a,c",
                        "a.1 ", "a.\u0661", "a.1_0"):
                self.is_no_row(full(), f"{command} {who}")
            self.is_no_row(full(), f"{command} ")

    def test_numbers(self):
        for number in ("0", "00", "01", "001", "-1", "+1", "1.0", "a", "", "one", "1 ", "\u0661", "1_0", "0x1"):
            self.is_no_row(full(), f"beats w {number}")
        for row in ("need w meets a", "need w Meet a", "need w ends out", "need w a", "need w out", "need w meet",
                    "need meet a", "need w end"):
            self.is_no_row(full(), row)

    def test_of_anything(self):
        desk = full()
        ahead = kept(desk)
        for thing in [*odd_things(), b"heap c", ["heap", "c"], ["heap c"], ("heap c",), ["meet", "c", A],
                      {"heap c": ""}, ("heap", "c")]:
            self.is_no_row(desk, thing)
        self.assertEqual(kept(desk), ahead)

    def test_ahead_of_no_such(self):
        for row in ("meet z A", "beats z 0", "hear z", "same z", "need z foo a", "copy z z z", "web z z", "pour z",
                    "value z :a"):
            self.is_no_row(full(), row)


class NoSuches(Said):
    def test_each_row(self):
        for row, who in (("copy d z", "z"), ("twin d z", "z"), ("meet z a", "z"), ("all z", "z"), ("hear z a", "z"),
                         ("pour z e", "z"),
                         ("pour c z", "z"), ("back z e", "z"), ("ready z", "z"), ("heap z", "z"), ("waits z", "z"),
                         ("causes z a", "z"),
                         ("length z a", "z"), ("why z a", "z"), ("text z", "z"), ("value z out", "z"),
                         ("need z meet a", "z"),
                         ("need z end out", "z"), ("come z out", "z"), ("beats z 1", "z"), ("sound z", "z"),
                         ("keeps z", "z"),
                         ("same z c", "z"), ("same c z", "z"), ("web v z\n", "z")):
            desk = full()
            ahead = kept(desk)
            self.refused(NoSuch, {"who": who}, desk.say, row)
            self.assertEqual(kept(desk), ahead)

    def test_the_first_such_word(self):
        desk = full()
        for row, who in (("pour y z", "y"), ("same y z", "y"), ("same c z", "z"), ("pour y e", "y")):
            self.refused(NoSuch, {"who": who}, desk.say, row)

    def test_each_drawer_is_another_one(self):
        desk = full()
        for row, who in (("copy d b", "b"), ("copy d c", "c"), ("web v w\n", "w"), ("web v c\n", "c"),
                         ("keeps w", "w"), ("keeps c", "c"),
                         ("sound b", "b"), ("heap w", "w"), ("heap b", "b"), ("twin d w", "w")):
            self.refused(NoSuch, {"who": who}, desk.say, row)

    def test_ahead_of_what_the_stages_refuse(self):
        desk = full()
        for row in ("web v z\nno text", "meet z zz", "need z end zz", "value z zz", "length z zz", "back z zz"):
            self.refused(NoSuch, {"who": "z"}, desk.say, row)

    def test_copy_of_anything(self):
        desk = full()
        for thing in ["z", "b", "w", "", "C", "c.0", *odd_things()]:
            self.refused(NoSuch, {"who": thing}, desk.copy, thing)
        self.assertEqual(desk.copy("c"), Copy(*full_fork()))


class Refusals(Said):
    def test_as_the_stages_refuse(self):
        desk = full()
        ahead = kept(desk)
        for row, error, field in (
                ("meet c z", NoMeeting, {"who": ("z",)}), ("meet c b", NoMeeting, {"who": ("b",)}),
                                  ("meet e e", NoMeeting, {"who": ("e",)}),
                ("back c a", NoMeeting, {"who": A}), ("causes c z", NoMeeting, {"who": ("z",)}),
                                  ("causes c a.0", NoMeeting, {"who": ("a", 0)}),
                ("length c a", NoMeeting, {"who": A}), ("length c z", NoMeeting, {"who": ("z",)}),
                                  ("length e a", NoMeeting, {"who": A}),
                ("why c z", NoOne, {"who": ("z",)}), ("why e e", NoOne, {"who": ("e",)}),
                                  ("value c z", NoEnd, {"end": "z"}),
                ("come w z", NoEnd, {"end": "z"}), ("need w end z", NoWish, {})):
            self.refused(error, field, desk.say, row)
        self.assertEqual(kept(desk), ahead)

    def test_caused(self):
        desk = full()
        desk.say("all c")
        self.refused(Caused, {"by": ("a", 0)}, desk.say, "back c a")
        self.told(desk, "heap c", "a a.0 c e")

    def test_unlike(self):
        desk = full()
        desk.say("web v b\n")
        desk.say("copy d v")
        self.assertRaises(RuntimeError, desk.say, "pour c d")
        self.told(desk, "same c d", "no")

    def test_too_many(self):
        desk = desk_of(*endless())
        for row in ("all c", "beats w 1", "beats w 9"):
            self.refused(TooMany, {"limit": 200}, desk.say, row)
        self.told(desk, "heap c", "")
        book, web = many_pairs(13)
        desk = desk_of(book, web)
        self.refused(TooMany, {"limit": 24}, desk.say, "sound w")
        rule = "pair era: " + "six " * 5 + "era: l1 l2, 0:0 1:0, 2:0 3:0, 4:0 5:0, "
        rule += ", ".join(f"{place}:{hand} {place}:{hand + 1}" for place in range(5) for hand in (1, 3, 5))
        book = book_in({"pair": (0, 0), "era": (), "six": (0,) * 6}, rule)
        self.refused(TooMany, {"limit": 4096}, desk_of(book, web_in(book.kinds(), "")).say, "keeps b")


class Playings(Said):
    def test_one_after_another(self):
        desk = Desk()
        rows = [*rows_of(*full_fork()), "copy c w", "meet c a", "hear c a.0", "meet c c", "heap c"]
        self.assertEqual(desk.play(rows), ["ok", "ok", "ok", "a", "", "a.0 c", "a a.0 c"])
        self.assertEqual(desk.log(), [("begin", 0), ("end", 7)])
        self.told(desk, "heap c", "a a.0 c")
        self.assertEqual(desk.play(rows=("all c", "waits c")), ["e", ""])
        self.assertEqual(desk.log(), [("begin", 0), ("end", 7), ("begin", 8), ("end", 10)])

    def test_an_empty_one(self):
        desk = Desk()
        self.assertEqual(desk.play([]), [])
        self.assertEqual(desk.play(()), [])
        self.assertEqual(desk.log(), [("begin", 0), ("end", 0), ("begin", 0), ("end", 0)])
        desk = full()
        self.assertEqual(desk.play([]), [])
        self.assertEqual(desk.log(), [("begin", 5), ("end", 5)])

    def test_refused_at_its_first_a_middle_and_its_last_row(self):
        good = ["meet c a", "back e e", "hear c z c", "twin d c", "book a\n", "web w b\n", "copy e w", "book b\n"]
        for bad, error in (("meet c z", NoMeeting), ("no row", NoRow), ("heap z", NoSuch), ("book b\nx", NoText),
                           (None, NoRow),
                           (["heap c"], NoRow), (object(), NoRow)):
            for at in range(len(good) + 1):
                desk = full()
                ahead = kept(desk)
                many = self.count(desk)
                rows = good[:at] + [bad] + good[at:]
                for played in (rows, tuple(rows)):
                    with self.assertRaises(error) as caught:
                        desk.play(played)
                    self.assertIs(type(caught.exception), error)
                    # Those that were answered ahead of the refusal count.
                    self.assertEqual(desk.log()[-2:], [("begin", many), ("end", many + at)])
                    many += at
                    self.assertEqual(kept(desk), ahead)
                    many = self.count(desk)
                self.assertEqual(desk.play(good)[0], "a")

    def count(self, desk):
        """How many rows were answered, by an empty playing."""
        desk.play([])
        return desk.log()[-1][1]

    def test_all_that_is_kept_is_as_it_was(self):
        desk = full()
        desk.say("hear c z")
        ahead = kept(desk)
        with self.assertRaises(Caused):
            desk.play(["all c", "hear e y a.0", "pour e c", "back c a"])
        self.assertEqual(kept(desk), ahead)
        self.told(desk, "heap c", "")
        self.told(desk, "waits c", "z")
        self.told(desk, "heap e", "e")
        with self.assertRaises(NoSuch):
            desk.play(["web v b\n", "copy d v", "book n\n", "copy c v", "heap x"])
        self.assertEqual(desk.names(), (["b"], ["w"], ["c", "e"]))
        self.told(desk, "meet c a", "a")

    def test_behind_rows_that_were_said(self):
        desk = full()
        # Rows that were refused were not answered.
        self.refused(NoRow, {}, desk.say, "heap")
        self.refused(NoMeeting, {"who": ("z",)}, desk.say, "meet c z")
        desk.play(["heap c", "heap e"])
        desk.say("heap c")
        self.refused(NoSuch, {"who": "z"}, desk.play, ["heap c", "heap z", "heap e"])
        desk.say("heap c")
        desk.play(["heap c"])
        self.assertEqual(desk.log(), [("begin", 5), ("end", 7), ("begin", 8), ("end", 9), ("begin", 10), ("end", 11)])

    def test_of_no_list(self):
        desk = full()
        ahead = kept(desk)
        for thing in [thing for thing in odd_things() if not isinstance(thing, (list, tuple))] + [
                "heap c", {"heap c": ""}, {"heap c"}, iter(["heap c"]), b"heap c"]:
            self.refused(NoRow, {}, desk.play, thing)
        self.assertEqual(desk.log(), [])
        self.assertEqual(kept(desk), ahead)

    def test_of_a_list_of_anything(self):
        desk = full()
        many = self.count(desk)
        for thing in odd_things():
            for rows in ([thing], ("heap c", thing), ["heap c", thing, "heap e"]):
                self.refused(NoRow, {}, desk.play, rows)
                self.assertEqual(desk.log()[-2:],
                                 [("begin", many), ("end", many + rows.index("heap c") + 1 if len(rows) > 1 else many)])
                many = desk.log()[-1][1]
        for thing in odd_things():
            if isinstance(thing, (list, tuple)) and len(thing) > 0:
                self.refused(NoRow, {}, desk.play, thing)


class Apart(Said):
    def test_two_desks_know_nothing_of_each_other(self):
        one, other = Desk(), Desk()
        one.play(rows_of(*full_fork()))
        self.assertEqual((other.names(), other.log()), (([], [], []), []))
        other.play([*rows_of(*full_fork()), "copy c w", "all c"])
        one.say("copy c w")
        self.told(one, "heap c", "")
        self.assertEqual(one.log(), [("begin", 0), ("end", 2)])

    def test_a_copy_that_was_told(self):
        desk = full()
        copy = desk.copy("c")
        copy.meet_all()
        self.told(desk, "heap c", "")
        desk.say("meet c c")
        self.assertEqual(copy.heap(), whos("a a.0 c e"))
        again = desk.copy("c")
        desk.say("back c c")
        self.assertEqual(again.heap(), whos("c"))

    def test_lists_that_are_told_may_be_changed(self):
        desk = full()
        answers = desk.play(["heap c", "heap e"])
        self.assertIsInstance(answers, list)
        answers.clear()
        for row in desk.names():
            row.append("z")
        desk.log().append(("begin", 0))
        desk.log().clear()
        self.assertEqual(desk.names(), (["b"], ["w"], ["c", "e"]))
        self.assertEqual(desk.log(), [("begin", 5), ("end", 7)])
        self.assertEqual([type(part) for part in desk.log()[0]], [str, int])

    def test_rows_that_are_handed_in_stay(self):
        desk = full()
        rows = ["heap c", "meet c a", "heap z"]
        self.refused(NoSuch, {"who": "z"}, desk.play, rows)
        self.assertEqual(rows, ["heap c", "meet c a", "heap z"])


if __name__ == "__main__":
    unittest.main()
