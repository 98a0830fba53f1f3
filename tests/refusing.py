"""A test case that looks at errors with their fields."""

import unittest


class Refusing(unittest.TestCase):

    def refuses(self, error, function, *given):
        """A call raises an error of just this class, with just these fields."""
        with self.assertRaises(type(error)) as caught:
            function(*given)
        self.assertIs(type(caught.exception), type(error))
        self.assertEqual(vars(caught.exception), vars(error))
