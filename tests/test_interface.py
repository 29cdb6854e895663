"""The interface: each name in its file, with its arguments, what is by name alone, and what may be left out. Point 2."""

import importlib
import inspect
import unittest

CONSTANTS = {
    "kinds": {"FACE": 0, "MOST_KINDS": 12, "MOST_HANDS": 6},
    "books": {"MOST_MADE": 12},
    "heaps": {"MOST_MEETINGS": 200},
    "rings": {"MOST_LOOKED": 24},
    "keeping": {"MOST_CHOICES": 4096},
}

FUNCTIONS = {
    "kinds": "is_name(thing); is_lots(thing); is_who(thing)",
    "webtexts": "who_text(who); end_text(end); who_of(text); web_text(web); read_web(kinds, text)",
    "likeness": "renaming(one, other); alike(one, other)",
    "booktexts": "book_text(book); read_book(text)",
    "meetings": "ready(book, web); met(book, web, who); is_still(book, web)",
    "whys": "why_waits(book, web, who)",
    "heaps": "is_heap(book, web, names); is_row(book, web, names); behind(book, web, names); row_of(book, web, names); "
             "whole(book, web, *, limit=200)",
    "trails": "trail(book, web, names, end)",
    "causes": "causes_of(book, web, names, who); lengths(book, web, names); lasts(book, web, names); "
              "borne_by(book, web, names, some)",
    "needs": "is_wish(web, thing); need(book, web, wish, *, limit=200)",
    "values": "value_at(web, name); come_to(book, web, name, *, limit=200)",
    "samples": "number_text(value)",
    "rings": "lot_of(web, end); is_ring(web, thing); ring_of(web)",
    "plans": "is_plan(web, thing); plan_of(web)",
    "keeping": "choices(book, one, other); keeps(book, one, other); why_not(book, one, other); "
               "is_why_not(book, one, other, thing); all_keep(book)",
    "beats": "schedule(book, web, *, hands=1, limit=200); longest(book, web, names); bound(many, length, hands)",
}

CLASSES = {
    "kinds": {"Kinds": "__init__(table); words(); has(thing); hands(word); lots(word); __eq__(other); __len__(); __repr__()"},
    "webs": {"Web": "__init__(kinds, facers=(), ties=()); kinds(); facers(); ties(); outers(); has(thing); kind(who); mate(end); "
                    "__eq__(other); __len__()"},
    "books": {"Book": "__init__(kinds, rules=()); kinds(); rules(); rule(one, other); __eq__(other); __len__()"},
    "copies": {"Copy": "__init__(book, web); book(); first(); web(); heap(); waits(); ready(); meet(who); meet_all(*, limit=200); "
                       "hear(names); pour(other); back(who); common(other); copied(); __eq__(other); __len__(); __str__()"},
    "desk": {"Desk": "__init__(); say(row); play(rows); names(); copy(name); log()"},
}


def told(text):
    """A dict from each name to its arguments, as they are written."""
    rows = [row.partition("(") for row in text.split("; ")]
    return {name: "(" + rest for name, _, rest in rows}


def module(name):
    return importlib.import_module(f"onefacers.{name}")


class Interface(unittest.TestCase):
    def test_constants(self):
        for name, values in CONSTANTS.items():
            for word, value in values.items():
                self.assertEqual(getattr(module(name), word), value)
                self.assertIs(type(getattr(module(name), word)), int)
        self.assertIsInstance(module("samples").COUNTING, str)

    def test_functions(self):
        for name, text in FUNCTIONS.items():
            for word, arguments in told(text).items():
                with self.subTest(name=word):
                    function = getattr(module(name), word)
                    self.assertTrue(inspect.isfunction(function))
                    self.assertEqual(function.__module__, f"onefacers.{name}")
                    self.assertEqual(str(inspect.signature(function)), arguments)

    def test_classes(self):
        for name, classes in CLASSES.items():
            for word, text in classes.items():
                found = getattr(module(name), word)
                self.assertTrue(inspect.isclass(found))
                self.assertEqual(found.__module__, f"onefacers.{name}")
                for method, arguments in told(text).items():
                    with self.subTest(name=f"{word}.{method}"):
                        self.assertIn(method, vars(found))
                        arguments = arguments.replace("(", "(self, ", 1) if arguments != "()" else "(self)"
                        self.assertEqual(str(inspect.signature(vars(found)[method])), arguments)

    def test_nothing_else_is_public_in_a_class(self):
        for name, classes in CLASSES.items():
            for word, text in classes.items():
                public = [method for method in vars(getattr(module(name), word)) if not method.startswith("_")]
                self.assertEqual([method for method in public if method not in told(text)], [])


if __name__ == "__main__":
    unittest.main()
