"""What tests of bounds share: how long an answer may take."""

import unittest
from time import process_time

# Far more than it takes, so that a slow machine does not fail, and far less than a plain search would take.
SECONDS = 4


class Timed(unittest.TestCase):
    def quick(self, function, *handed):
        """What the function tells, which it has to do in time."""
        began = process_time()
        told = function(*handed)
        self.assertLess(process_time() - began, SECONDS, function.__name__)
        return told
