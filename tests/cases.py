"""What all tests of refused calls hold."""

import unittest

from everrow.errors import InvalidName, TakenName, UnknownName


class Case(unittest.TestCase):

    def refuse(self, error, worth, call, *told):
        """Holds that a call raises just this error, with this very object in its field."""
        with self.assertRaises(error) as caught:
            call(*told)
        self.assertIs(type(caught.exception), error)
        field = "name" if error in (InvalidName, TakenName, UnknownName) else "value"
        self.assertIs(getattr(caught.exception, field), worth)

    def refuse_each(self, error, worths, call):
        """Holds the same for each of some values that a call is passed."""
        for worth in worths:
            with self.subTest(worth=worth):
                self.refuse(error, worth, call, worth)
