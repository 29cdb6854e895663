"""What several tests look at: a refusal and its fields."""

import unittest


class Case(unittest.TestCase):
    def refused(self, error, field, call, *handed, **named):
        """Refused with just this error, whose fields are the things themselves or equal to them."""
        with self.assertRaises(error) as caught:
            call(*handed, **named)
        self.assertIs(type(caught.exception), error)
        for name, value in field.items():
            told = getattr(caught.exception, name)
            self.assertTrue(told is value or (type(told), told) == (type(value), value))
