"""What several test files need: a time limit, a look at the shape of a form, and its value at a point."""

import signal
import unittest
from fractions import Fraction


class Timed(unittest.TestCase):
    """A test of this class fails after a minute: a time that grows with the numbers never ends."""

    def setUp(self):
        signal.signal(signal.SIGALRM, self.out_of_time)
        signal.alarm(60)
        self.addCleanup(signal.alarm, 0)

    def out_of_time(self, number, frame):
        raise AssertionError("no answer within a minute")

    def assert_form(self, form):
        """The form is as point 4 tells it, kinds and all."""
        self.assertIs(type(form), tuple)
        for pair in form:
            self.assertIs(type(pair), tuple)
            self.assertEqual(len(pair), 2)
            self.assertIs(type(pair[1]), int)
            self.assertNotEqual(pair[1], 0)
            self.assert_product(pair[0])
        self.assert_rising([pair[0] for pair in form])

    def assert_product(self, product):
        self.assertIs(type(product), tuple)
        for pair in product:
            self.assertIs(type(pair), tuple)
            self.assertEqual(len(pair), 2)
            self.assertIs(type(pair[0]), str)
            self.assertIs(type(pair[1]), int)
            self.assertGreaterEqual(pair[1], 1)
        self.assert_rising([pair[0] for pair in product])

    def assert_rising(self, row):
        for first, second in zip(row, row[1:]):
            self.assertLess(first, second)

    def assert_sign(self, answer, wanted):
        self.assertIs(type(answer), int)
        self.assertEqual(answer, wanted)


def value(pairs, point):
    """The sum that the pairs stand for, the names being as in the point."""
    total = Fraction(0)
    for product, number in pairs:
        part = Fraction(number)
        for name, power in product:
            part *= Fraction(point[name]) ** power
        total += part
    return total
