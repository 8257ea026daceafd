"""What the tests of refusals share."""

import unittest


class RefusalTest(unittest.TestCase):
    def refused(self, refusal, name, thing, deed, *handed):
        """The deed refuses with just that class, and the error bears the very thing by that name."""
        with self.assertRaises(refusal) as taken:
            deed(*handed)
        self.assertIs(type(taken.exception), refusal)
        self.assertIs(getattr(taken.exception, name), thing)
