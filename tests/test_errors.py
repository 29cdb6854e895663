"""The errors of the interface: their fields, and what each stands under."""

import unittest

from onefacers import errors

BASES = {
    "FacerError": "ValueError",
    "NoKinds": "FacerError", "NoWeb": "FacerError", "NoBook": "FacerError", "NoHeap": "FacerError",
    "NoText": "FacerError", "NoWish": "FacerError", "NoCount": "FacerError", "NoRow": "FacerError",
    "NoOne": "LookupError", "NoEnd": "LookupError",
    "NoKind": "KeyError", "NoRule": "KeyError", "NoSuch": "KeyError",
    "NoMeeting": "RuntimeError", "Caused": "RuntimeError", "Unlike": "RuntimeError",
    "TooMany": "ArithmeticError",
}

FIELDS = {
    "NoKinds": ("what", "who"), "NoWeb": ("what", "who"), "NoBook": ("what", "number"), "NoHeap": ("who",),
    "NoOne": ("who",), "NoEnd": ("end",), "NoKind": ("word",), "NoRule": ("pair",), "NoSuch": ("who",),
    "NoMeeting": ("who",), "Caused": ("by",), "TooMany": ("limit",),
}

OF_A_TEXT = ("FacerError", "NoText", "NoWish", "NoCount", "NoRow", "Unlike")


class Errors(unittest.TestCase):
    def test_each_stands_straight_under_its_base(self):
        for name, base in BASES.items():
            with self.subTest(name=name):
                found = getattr(errors, name)
                self.assertEqual([one.__name__ for one in found.__bases__], [base])
                self.assertEqual(found.__module__, "onefacers.errors")

    def test_the_lists_of_this_test_are_whole(self):
        self.assertEqual(sorted([*FIELDS, *OF_A_TEXT]), sorted(BASES))

    def test_fields_by_place(self):
        for name, fields in FIELDS.items():
            with self.subTest(name=name):
                given = [f"value of {field}" for field in fields]
                error = getattr(errors, name)(*given)
                self.assertEqual([getattr(error, field) for field in fields], given)

    def test_fields_by_name(self):
        for name, fields in FIELDS.items():
            with self.subTest(name=name):
                given = {field: ("a", number) for number, field in enumerate(fields)}
                error = getattr(errors, name)(**given)
                self.assertEqual({field: getattr(error, field) for field in fields}, given)

    def test_fields_are_wanted(self):
        for name in FIELDS:
            with self.subTest(name=name):
                self.assertRaises(TypeError, getattr(errors, name))

    def test_fields_keep_what_they_are_given(self):
        thing = [object()]
        self.assertIs(errors.NoOne(thing).who, thing)
        self.assertIs(errors.NoKinds("name", thing).who, thing)
        self.assertIs(errors.NoWeb("twice", thing).who, thing)

    def test_those_without_fields_are_made_of_a_text(self):
        for name in OF_A_TEXT:
            with self.subTest(name=name):
                self.assertEqual(str(getattr(errors, name)("why")), "why")

    def test_they_can_be_shown(self):
        for name, fields in FIELDS.items():
            with self.subTest(name=name):
                error = getattr(errors, name)(*[None for _ in fields])
                self.assertIsInstance(str(error), str)
                self.assertNotEqual(str(error), "")


if __name__ == "__main__":
    unittest.main()
