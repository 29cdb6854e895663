"""Points 5 and 6: NAMES, LOTS, WHOS and KINDS."""

import unittest

from onefacers.errors import NoKind, NoKinds
from onefacers.kinds import FACE, MOST_HANDS, MOST_KINDS, Kinds, is_lots, is_name, is_who
from tests.things import Touchy, looped, odd_things, some_kinds

TWELVE = ["a", "b", "c", "d", "e", "f", "g", "h", "i", "j", "k", "l"]


class Names(unittest.TestCase):
    def test_numbers_of_the_interface(self):
        self.assertEqual((FACE, MOST_KINDS, MOST_HANDS), (0, 12, 6))

    def test_one_to_eight_small_letters(self):
        for text in ("a", "z", "ab", "zero", "abcdefgh", "zzzzzzzz", "qrstuvwx"):
            self.assertIs(is_name(text), True, text)
        self.assertIs(is_name(thing="a"), True)

    def test_other_texts(self):
        for text in ("", "abcdefghi", "A", "aB", "a1", "1", "a b", " a", "a ", "a\n", "a.b", "a_", "`", "{", "\u00e9",
                     "\u00aa", "a\u0430", "\uff41", "\x00"):
            self.assertIs(is_name(text), False, repr(text))

    def test_of_anything(self):
        for thing in odd_things():
            self.assertIs(is_name(thing), False)


class Lots(unittest.TestCase):
    def test_lots(self):
        for lots in ((), (0,), (0, 0), (0, 1), (0, 1, 0), (0, 1, 2, 3, 4, 5), (0, 0, 0, 0, 0, 0), (0, 0, 1, 1, 0, 2),
                     (0, 1, 2, 0, 1, 3)):
            self.assertIs(is_lots(lots), True, lots)
        self.assertIs(is_lots(thing=()), True)

    def test_no_lots(self):
        for lots in ((1,), (-1,), (0, 2), (0, 0, 2), (0, 1, 3), (0, 1, 0, 3), (0, -1), (0, 1, 2, 3, 4, 6), (5,),
                     (0, 0, 0, 0, 0, 0, 0), (0, 1, 2, 3, 4, 5, 6)):
            self.assertIs(is_lots(lots), False, lots)

    def test_truths_are_no_lots(self):
        for lots in ((False,), (0, True), (0, False), (False, 1), (0, 1, True)):
            self.assertIs(is_lots(lots), False, lots)

    def test_no_tuples(self):
        for lots in ([], [0], [0, 1], {}, {0: 0}, "0", b"\x00", range(1), None, 0):
            self.assertIs(is_lots(lots), False, lots)

    def test_other_things_in_the_tuple(self):
        for thing in odd_things():
            if isinstance(thing, int) and not isinstance(thing, bool) and thing in (0, 1):
                continue
            self.assertIs(is_lots((0, thing)), False)

    def test_of_anything(self):
        for thing in odd_things():
            self.assertIs(isinstance(is_lots(thing), bool), True)
        self.assertEqual([thing for thing in odd_things() if is_lots(thing)], [(), (0,)])


class Whos(unittest.TestCase):
    def test_whos(self):
        for who in (("a",), ("abcdefgh",), ("a", 0), ("a", 11), ("a", 0, 11, 5), ("z",) + (3,) * 200):
            self.assertIs(is_who(who), True, who)
        self.assertIs(is_who(thing=("a",)), True)

    def test_no_whos(self):
        for who in ((), ("",), ("A",), ("abcdefghi",), ("a", 12), ("a", -1), ("a", 0, 12), ("a", 10 ** 29),
                    ("a", "b"), ("a", "0"), (0,), (0, "a"), ("a", None), ("a", ()), ("a", [1]), ("a", (1,))):
            self.assertIs(is_who(who), False, who)

    def test_truths_are_no_places(self):
        for who in (("a", True), ("a", False), ("a", 0, True), ("a", False, 1), ("a", True, 0), (True,)):
            self.assertIs(is_who(who), False, who)

    def test_lists_are_none(self):
        for who in (["a"], ["a", 0], "a", {"a": 0}):
            self.assertIs(is_who(who), False, who)

    def test_of_anything(self):
        for thing in odd_things():
            self.assertIs(is_who(thing), False)


class Made(unittest.TestCase):
    def refused(self, table, what, who):
        with self.assertRaises(NoKinds) as caught:
            Kinds(table)
        self.assertEqual(caught.exception.what, what)
        if isinstance(who, str) or who is None:
            self.assertEqual(caught.exception.who, who)
        else:
            self.assertIs(caught.exception.who, who)

    def test_none_and_twelve_kinds(self):
        self.assertEqual(len(Kinds({})), 0)
        self.assertEqual(Kinds({}).words(), [])
        self.assertEqual(Kinds({word: () for word in TWELVE}).words(), TWELVE)

    def test_a_thirteenth(self):
        self.refused({word: () for word in [*TWELVE, "m"]}, "many", None)

    def test_many_goes_ahead_of_names_and_lots(self):
        table = {word: None for word in range(13)}
        self.refused(table, "many", None)
        table.pop(0)
        with self.assertRaises(NoKinds) as caught:
            Kinds(table)
        self.assertEqual((caught.exception.what, caught.exception.who), ("name", 1))

    def test_names_of_one_and_eight_letters(self):
        self.assertEqual(Kinds({"abcdefgh": (), "a": (0,)}).words(), ["a", "abcdefgh"])
        self.refused({"abcdefghi": ()}, "name", "abcdefghi")
        self.refused({"": ()}, "name", "")

    def test_none_and_six_hands(self):
        kinds = Kinds({"a": (), "b": (0, 1, 2, 3, 4, 5)})
        self.assertEqual((kinds.hands("a"), kinds.hands("b")), (0, 6))
        self.refused({"a": (0, 0, 0, 0, 0, 0, 0)}, "lots", "a")

    def test_lots_that_go_up(self):
        self.assertEqual(Kinds({"a": (0, 1, 2)}).lots("a"), (0, 1, 2))
        self.refused({"a": (0, 2)}, "lots", "a")
        self.refused({"a": (1,)}, "lots", "a")
        self.refused({"a": (0, True)}, "lots", "a")
        self.refused({"a": (False,)}, "lots", "a")
        self.refused({"a": [0]}, "lots", "a")

    def test_no_table(self):
        for thing in odd_things():
            if not isinstance(thing, dict):
                self.refused(thing, "table", None)
        self.refused([("a", ())], "table", None)

    def test_keys_of_any_kind(self):
        for thing in odd_things():
            try:
                table = {"a": (), thing: ()}
            except (TypeError, AssertionError):
                continue
            if len(table) == 2:
                self.refused(table, "name", thing)

    def test_lots_of_any_kind(self):
        for thing in odd_things():
            if not is_lots(thing):
                self.refused({"b": (), "a": thing}, "lots", "a")

    def test_the_first_key_decides(self):
        self.refused({"b": None, "a": None}, "lots", "b")
        self.refused({"b": None, "A": ()}, "lots", "b")
        self.refused({"A": (), "b": None}, "name", "A")
        self.refused({"a": (), "A": None}, "name", "A")

    def test_by_name(self):
        self.assertEqual(Kinds(table={"a": ()}).words(), ["a"])


class Answers(unittest.TestCase):
    def test_words_are_rising(self):
        self.assertEqual(some_kinds().words(), ["add", "dup", "succ", "zero"])

    def test_has(self):
        kinds = some_kinds()
        self.assertIs(kinds.has("add"), True)
        self.assertIs(kinds.has(thing="zero"), True)
        self.assertIs(kinds.has("mul"), False)
        for thing in odd_things():
            self.assertIs(kinds.has(thing), False)

    def test_hands_and_lots(self):
        kinds = some_kinds()
        self.assertEqual([kinds.hands(word) for word in kinds.words()], [2, 2, 1, 0])
        self.assertEqual([kinds.lots(word) for word in kinds.words()], [(0, 1), (0, 0), (0,), ()])
        self.assertEqual((kinds.hands(word="add"), kinds.lots(word="add")), (2, (0, 1)))

    def test_no_kind(self):
        kinds = some_kinds()
        for thing in ["mul", *odd_things()]:
            for ask in (kinds.hands, kinds.lots):
                with self.assertRaises(NoKind) as caught:
                    ask(thing)
                self.assertIs(caught.exception.word, thing)

    def test_equal(self):
        kinds = some_kinds()
        self.assertIs(kinds == some_kinds(), True)
        self.assertIs(kinds != some_kinds(), False)
        self.assertIs(kinds == Kinds({"add": (0, 1), "dup": (0, 0), "succ": (0,), "zero": ()}), True)
        self.assertIs(kinds == Kinds({"add": (0, 0), "dup": (0, 0), "succ": (0,), "zero": ()}), False)
        self.assertIs(kinds == Kinds({"dup": (0, 0), "succ": (0,), "zero": ()}), False)
        self.assertIs(Kinds({}) == Kinds({}), True)

    def test_equal_to_nothing_else(self):
        kinds = some_kinds()
        for thing in odd_things():
            if not type(thing).__name__ in ("Touchy", "Agreeing"):
                self.assertIs(kinds == thing, False)
        self.assertIs(kinds == {"zero": (), "succ": (0,), "dup": (0, 0), "add": (0, 1)}, False)
        self.assertIs(kinds.__eq__(Touchy()), False)

    def test_len(self):
        self.assertEqual((len(some_kinds()), len(Kinds({"a": ()}))), (4, 1))

    def test_repr(self):
        self.assertEqual(repr(Kinds({})), "Kinds({})")
        self.assertEqual(repr(Kinds({"b": (0, 1), "a": (), "c": (0,)})), "Kinds({'a': (), 'b': (0, 1), 'c': (0,)})")


class Kept(unittest.TestCase):
    def test_the_table_stays_and_has_no_bearing_later(self):
        table = {"b": (0,), "a": ()}
        kinds = Kinds(table)
        self.assertEqual(list(table.items()), [("b", (0,)), ("a", ())])
        table["c"] = ()
        table["a"] = (0, 0)
        del table["b"]
        self.assertEqual(repr(kinds), "Kinds({'a': (), 'b': (0,)})")
        self.assertEqual((kinds.words(), kinds.hands("a"), kinds.has("c"), len(kinds)), (["a", "b"], 0, False, 2))

    def test_a_refused_table_stays(self):
        table = {"b": (0,), "A": looped()}
        self.assertRaises(NoKinds, Kinds, table)
        self.assertEqual(list(table), ["b", "A"])

    def test_told_words_belong_to_whoever_asked(self):
        kinds = some_kinds()
        words = kinds.words()
        words.append("mul")
        words.remove("add")
        self.assertEqual(kinds.words(), ["add", "dup", "succ", "zero"])
        self.assertIs(kinds.has("add"), True)
        self.assertIsNot(kinds.words(), kinds.words())


if __name__ == "__main__":
    unittest.main()
