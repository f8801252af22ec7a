"""What several test files need: a time limit, a look at the shape of forms and sentences, their values at points."""

import math
import signal
import unittest
from fractions import Fraction

from realsay import errors
from realsay.sentences import all_of, both, either, never, some_of

WORDS_THAT_COMPARE = ("less", "most", "equal", "unlike")
LOOSE_WORDS = ("both", "either", "not", "leaf")
YES = ("yes",)
NO = ("no",)
GREAT = 10 ** 30 - 1
X = (("x", 1),)
Y = (("y", 1),)
XX = (("x", 2),)
XY = (("x", 1), ("y", 1))


class Timed(unittest.TestCase):
    """A test of this class fails after a minute: a time that grows with the numbers never ends."""

    def setUp(self):
        signal.signal(signal.SIGALRM, self.out_of_time)
        signal.alarm(60)
        self.addCleanup(signal.alarm, 0)

    def out_of_time(self, number, frame):
        raise AssertionError("no answer within a minute")

    def assert_form(self, form):
        """The form is as point 4 tells it, kinds and all."""
        self.assertIs(type(form), tuple)
        for pair in form:
            self.assertIs(type(pair), tuple)
            self.assertEqual(len(pair), 2)
            self.assertIs(type(pair[1]), int)
            self.assertNotEqual(pair[1], 0)
            self.assert_product(pair[0])
        self.assert_rising([pair[0] for pair in form])

    def assert_product(self, product):
        self.assertIs(type(product), tuple)
        for pair in product:
            self.assertIs(type(pair), tuple)
            self.assertEqual(len(pair), 2)
            self.assertIs(type(pair[0]), str)
            self.assertIs(type(pair[1]), int)
            self.assertGreaterEqual(pair[1], 1)
        self.assert_rising([pair[0] for pair in product])

    def assert_rising(self, row):
        for first, second in zip(row, row[1:]):
            self.assertLess(first, second)

    def assert_sign(self, answer, wanted):
        self.assertIs(type(answer), int)
        self.assertEqual(answer, wanted)

    def assert_sentence(self, sentence):
        """The sentence is in one form, as points 11 and 12 tell it, kinds and all."""
        self.assertIs(type(sentence), tuple)
        word = sentence[0]
        self.assertIs(type(word), str)
        if word in ("yes", "no"):
            self.assertEqual(len(sentence), 1)
        elif word in WORDS_THAT_COMPARE:
            self.assertEqual(len(sentence), 2)
            self.assert_form(sentence[1])
            self.assertEqual(math.gcd(*[number for product, number in sentence[1]]), 1)
            self.assertTrue(any(product != () for product, number in sentence[1]))
        else:
            self.assert_parts(sentence)

    def assert_parts(self, sentence):
        word = sentence[0]
        if word in ("both", "either"):
            self.assertEqual(len(sentence), 2)
            parts = sentence[1]
            self.assertIs(type(parts), tuple)
            self.assertGreaterEqual(len(parts), 2)
            self.assertEqual(len(set(parts)), len(parts))
        else:
            self.assertIn(word, ("not", "some", "all"))
            self.assertEqual(len(sentence), 2 if word == "not" else 3)
            self.assertIs(type(sentence[-2]), str)
            parts = sentence[-1:]
        for part in parts:
            self.assertNotIn(part, (("yes",), ("no",)))
            self.assert_sentence(part)

    def assert_number(self, number):
        """The number is told as point 8 says, kinds and all."""
        self.assertIs(type(number), tuple)
        self.assertEqual([type(part) for part in number], [int] * 4)
        self.assertGreaterEqual(number[2], 0)
        self.assertGreaterEqual(number[3], 1)

    def assert_fraction(self, number):
        self.assert_number(number)
        self.assertEqual(number[1], 0)

    def assert_refused(self, kind, fields, asked, *arguments):
        """The question is refused with this one of the refusals, and with these fields."""
        with self.assertRaises(errors.RealError) as caught:
            asked(*arguments)
        self.assertIs(type(caught.exception), kind)
        self.assertIsInstance(caught.exception, ValueError)
        self.assertEqual(vars(caught.exception), fields)

    def assert_lacks(self, name, asked, *arguments):
        """The question is refused with Lacks for this name."""
        with self.assertRaises(errors.Lacks) as caught:
            asked(*arguments)
        self.assertEqual(caught.exception.name, name)
        return caught.exception


def below(name, number=0):
    """The compare name < number."""
    return ("less", tuple([((), -number)] * (number != 0) + [(((name, 1),), 1)]))


def drawn(chance, depth, words, leaf):
    """Any sentence in one form, of these words, with at most so many around each leaf, which is drawn too."""
    word = chance.choice(words) if depth else "leaf"
    if word in ("both", "either"):
        parts = [drawn(chance, depth - 1, words, leaf) for k in range(chance.randint(2, 3))]
        return both(parts) if word == "both" else either(parts)
    if word == "not":
        return never(drawn(chance, depth - 1, words, leaf))
    if word in ("some", "all"):
        bind = some_of if word == "some" else all_of
        return bind(chance.choice("abxy"), drawn(chance, depth - 1, words, leaf))
    return leaf(chance)


def value(pairs, point):
    """The sum that the pairs stand for, the names being as in the point."""
    total = Fraction(0)
    for product, number in pairs:
        part = Fraction(number)
        for name, power in product:
            part *= Fraction(point[name]) ** power
        total += part
    return total


def sign_there(form, point):
    """The sign of the form at a point of numbers (p, q, r, s), by fractions a and b of a + b root r."""
    names = set([name for product, number in form for name, power in product])
    roots = set([point[name][2] for name in names if point[name][1] != 0]) or {0}
    (r,) = roots
    a, b = Fraction(0), Fraction(0)
    for product, number in form:
        c, d = Fraction(number), Fraction(0)
        for name, power in product:
            p, q, own, s = point[name]
            for k in range(power):
                c, d = (c * p + d * q * r) / s, (c * q + d * p) / s
        a, b = a + c, b + d
    one, other = (a > 0) - (a < 0), ((b > 0) - (b < 0)) * (r > 0)
    if one * other >= 0:
        return one or other
    return one * ((a * a > b * b * r) - (a * a < b * b * r))


def said(word, sign):
    """Whether what the word of a compare says is true of this sign."""
    return {"less": sign < 0, "most": sign <= 0, "equal": sign == 0, "unlike": sign != 0}[word]


def true_there(sentence, point):
    """Whether a loose sentence holds at the point, straight by what point 11 says."""
    word = sentence[0]
    if word in WORDS_THAT_COMPARE:
        return said(word, sign_there(sentence[1], point))
    if word == "both":
        return all([true_there(part, point) for part in sentence[1]])
    if word == "either":
        return any([true_there(part, point) for part in sentence[1]])
    if word == "not":
        return not true_there(sentence[1], point)
    return {"yes": True, "no": False}[word]


def words_in(sentence):
    """All words of the sentence, as often as they come."""
    word = sentence[0]
    found = [word]
    if word in ("both", "either"):
        for part in sentence[1]:
            found.extend(words_in(part))
    elif word in ("not", "some", "all"):
        found.extend(words_in(sentence[-1]))
    return found
