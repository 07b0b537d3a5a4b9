"""How the tests ask for an error."""

import unittest


class Asking(unittest.TestCase):
    def raises(self, error, field, call, *args, **named):
        """Check that a call raises just this error and that its field is this very object."""
        with self.assertRaises(error) as caught:
            call(*args, **named)
        self.assertIs(type(caught.exception), error)
        [held] = vars(caught.exception).values()
        self.assertIs(held, field)
