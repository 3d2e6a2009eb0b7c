"""What tests of refusals have in common."""

import unittest

from leastfail.errors import BadValue


class RefusalTests(unittest.TestCase):

    def refused(self, what, call, *args, **named):
        """The call is refused with BadValue of what, and with none of the errors under that."""
        with self.assertRaises(BadValue) as caught:
            call(*args, **named)
        self.assertIs(type(caught.exception), BadValue)
        self.assertEqual(caught.exception.what, what)

    def all_refused(self, what, call, things):
        """The call is refused so of each of the things, which are told by their places alone."""
        for at, thing in enumerate(things):
            with self.subTest(what=what, at=at):
                self.refused(what, call, thing)
