"""How the tests ask for an error, and for answers in time."""

import time
import unittest


class Asking(unittest.TestCase):
    def raises(self, error, field, call, *args, **named):
        """Check that a call raises just this error and that its field is this very object."""
        with self.assertRaises(error) as caught:
            call(*args, **named)
        self.assertIs(type(caught.exception), error)
        [held] = vars(caught.exception).values()
        self.assertIs(held, field)


class InTime(Asking):
    """Tests that take less than a minute each."""

    def setUp(self):
        self.begun = time.monotonic()

    def tearDown(self):
        self.assertLess(time.monotonic() - self.begun, 60)
