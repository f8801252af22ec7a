"""What several test files need: a time limit, a look at the shape of forms and sentences, their values at points."""

import decimal
import itertools
import math
import signal
import unittest
from decimal import Decimal
from fractions import Fraction

from realsay import errors
from realsay.sentences import all_of, both, either, free_in, never, some_of

WORDS_THAT_COMPARE = ("less", "most", "equal", "unlike")
PLAIN = {"yes", "no", "both", "either", *WORDS_THAT_COMPARE}
LOOSE_WORDS = ("both", "either", "not", "leaf")
YES = ("yes",)
NO = ("no",)
GREAT = 10 ** 30 - 1
X = (("x", 1),)
Y = (("y", 1),)
XX = (("x", 2),)
XY = (("x", 1), ("y", 1))
SOME_NUMBERS = [Fraction(top, bottom) for top, bottom in
                ((0, 1), (1, 1), (-1, 1), (1, 2), (-2, 1), (4, 1), (-1, 4), (9, 4), (-5, 3), (3, 1), (-4, 1), (7, 1))]
# Where a sentence is tried at numbers, these have so many figures, and what is smaller than this is taken for 0.
FIGURES = 300
TINY = Decimal(10) ** -120


class Timed(unittest.TestCase):
    """A test of this class fails after a minute: a time that grows with the numbers never ends."""

    def setUp(self):
        signal.signal(signal.SIGALRM, self.out_of_time)
        signal.alarm(60)
        self.addCleanup(signal.alarm, 0)

    def out_of_time(self, number, frame):
        raise AssertionError("no answer within a minute")

    def assert_form(self, form):
        """The form is as point 4 tells it, kinds and all."""
        self.assertIs(type(form), tuple)
        for pair in form:
            self.assertIs(type(pair), tuple)
            self.assertEqual(len(pair), 2)
            self.assertIs(type(pair[1]), int)
            self.assertNotEqual(pair[1], 0)
            self.assert_product(pair[0])
        self.assert_rising([pair[0] for pair in form])

    def assert_product(self, product):
        self.assertIs(type(product), tuple)
        for pair in product:
            self.assertIs(type(pair), tuple)
            self.assertEqual(len(pair), 2)
            self.assertIs(type(pair[0]), str)
            self.assertIs(type(pair[1]), int)
            self.assertGreaterEqual(pair[1], 1)
        self.assert_rising([pair[0] for pair in product])

    def assert_rising(self, row):
        for first, second in zip(row, row[1:]):
            self.assertLess(first, second)

    def assert_sign(self, answer, wanted):
        self.assertIs(type(answer), int)
        self.assertEqual(answer, wanted)

    def assert_sentence(self, sentence):
        """The sentence is in one form, as points 11 and 12 tell it, kinds and all."""
        self.assertIs(type(sentence), tuple)
        word = sentence[0]
        self.assertIs(type(word), str)
        if word in ("yes", "no"):
            self.assertEqual(len(sentence), 1)
        elif word in WORDS_THAT_COMPARE:
            self.assertEqual(len(sentence), 2)
            self.assert_form(sentence[1])
            self.assertEqual(math.gcd(*[number for product, number in sentence[1]]), 1)
            self.assertTrue(any(product != () for product, number in sentence[1]))
        else:
            self.assert_parts(sentence)

    def assert_parts(self, sentence):
        word = sentence[0]
        if word in ("both", "either"):
            self.assertEqual(len(sentence), 2)
            parts = sentence[1]
            self.assertIs(type(parts), tuple)
            self.assertGreaterEqual(len(parts), 2)
            self.assertEqual(len(set(parts)), len(parts))
        else:
            self.assertIn(word, ("not", "some", "all"))
            self.assertEqual(len(sentence), 2 if word == "not" else 3)
            self.assertIs(type(sentence[-2]), str)
            parts = sentence[-1:]
        for part in parts:
            self.assertNotIn(part, (("yes",), ("no",)))
            self.assert_sentence(part)

    def assert_plain(self, sentence, names):
        """The sentence is plain, in one form, and in these names alone."""
        self.assert_sentence(sentence)
        self.assertLessEqual(set(words_in(sentence)), PLAIN)
        self.assertLessEqual(set(free_in(sentence)), set(names))

    def assert_number(self, number):
        """The number is told as point 8 says, kinds and all."""
        self.assertIs(type(number), tuple)
        self.assertEqual([type(part) for part in number], [int] * 4)
        self.assertGreaterEqual(number[2], 0)
        self.assertGreaterEqual(number[3], 1)

    def assert_fraction(self, number):
        self.assert_number(number)
        self.assertEqual(number[1], 0)

    def assert_refused(self, kind, fields, asked, *arguments):
        """The question is refused with this one of the refusals, and with these fields."""
        with self.assertRaises(errors.RealError) as caught:
            asked(*arguments)
        self.assertIs(type(caught.exception), kind)
        self.assertIsInstance(caught.exception, ValueError)
        self.assertEqual(vars(caught.exception), fields)

    def assert_lacks(self, name, asked, *arguments):
        """The question is refused with Lacks for this name."""
        with self.assertRaises(errors.Lacks) as caught:
            asked(*arguments)
        self.assertEqual(caught.exception.name, name)
        return caught.exception


def below(name, number=0):
    """The compare name < number."""
    return ("less", tuple([((), -number)] * (number != 0) + [(((name, 1),), 1)]))


def drawn(chance, depth, words, leaf):
    """Any sentence in one form, of these words, with at most so many around each leaf, which is drawn too."""
    word = chance.choice(words) if depth else "leaf"
    if word in ("both", "either"):
        parts = [drawn(chance, depth - 1, words, leaf) for k in range(chance.randint(2, 3))]
        return both(parts) if word == "both" else either(parts)
    if word == "not":
        return never(drawn(chance, depth - 1, words, leaf))
    if word in ("some", "all"):
        bind = some_of if word == "some" else all_of
        return bind(chance.choice("abxy"), drawn(chance, depth - 1, words, leaf))
    return leaf(chance)


def value(pairs, point):
    """The sum that the pairs stand for, the names being as in the point."""
    total = Fraction(0)
    for product, number in pairs:
        part = Fraction(number)
        for name, power in product:
            part *= Fraction(point[name]) ** power
        total += part
    return total


def sign_there(form, point):
    """The sign of the form at a point of numbers (p, q, r, s), by fractions a and b of a + b root r."""
    names = set([name for product, number in form for name, power in product])
    roots = set([point[name][2] for name in names if point[name][1] != 0]) or {0}
    (r,) = roots
    a, b = Fraction(0), Fraction(0)
    for product, number in form:
        c, d = Fraction(number), Fraction(0)
        for name, power in product:
            p, q, own, s = point[name]
            for k in range(power):
                c, d = (c * p + d * q * r) / s, (c * q + d * p) / s
        a, b = a + c, b + d
    one, other = (a > 0) - (a < 0), ((b > 0) - (b < 0)) * (r > 0)
    if one * other >= 0:
        return one or other
    return one * ((a * a > b * b * r) - (a * a < b * b * r))


def said(word, sign):
    """Whether what the word of a compare says is true of this sign."""
    return {"less": sign < 0, "most": sign <= 0, "equal": sign == 0, "unlike": sign != 0}[word]


def true_there(sentence, point):
    """Whether a loose sentence holds at the point, straight by what point 11 says."""
    word = sentence[0]
    if word in WORDS_THAT_COMPARE:
        return said(word, sign_there(sentence[1], point))
    if word == "both":
        return all([true_there(part, point) for part in sentence[1]])
    if word == "either":
        return any([true_there(part, point) for part in sentence[1]])
    if word == "not":
        return not true_there(sentence[1], point)
    return {"yes": True, "no": False}[word]


def fraction_told(fraction):
    """The fraction, or whole number, as a number of point 8."""
    return (Fraction(fraction).numerator, 0, 0, Fraction(fraction).denominator)


def point_told(at):
    return {name: fraction_told(fraction) for name, fraction in at.items()}


def grid(names, count):
    """Points of fractions for the names: of as few of SOME_NUMBERS for each name as make the count."""
    each = len(SOME_NUMBERS)
    while len(names) > 1 and (each - 1) ** len(names) >= count:
        each -= 1
    return [dict(zip(names, row)) for row in itertools.product(SOME_NUMBERS[:each], repeat=len(names))]


def deepest(sentence):
    """How many sentences stand within one another, the outermost and a compare counted."""
    word = sentence[0]
    if word in ("both", "either"):
        return 1 + max([deepest(part) for part in sentence[1]])
    return 1 + deepest(sentence[-1]) if word in ("not", "some", "all") else 1


def words_in(sentence):
    """All words of the sentence, as often as they come."""
    word = sentence[0]
    found = [word]
    if word in ("both", "either"):
        for part in sentence[1]:
            found.extend(words_in(part))
    elif word in ("not", "some", "all"):
        found.extend(words_in(sentence[-1]))
    return found


def is_true(sentence, at, **numbers):
    """Whether the sentence is true by trying numbers for the bound names; the free ones are the fractions of at, or
    numbers told as in point 8.

    Tried are all borders of the forms that are left once the names bound within have been taken out of each two forms,
    and a number between each two of them, below and above: nothing changes but at such borders.
    """
    with decimal.localcontext() as context:
        context.prec = FIGURES
        return tried(sentence, at, {name: (p + q * Decimal(r).sqrt()) / s for name, (p, q, r, s) in numbers.items()})


def tried(sentence, at, numbers):
    word = sentence[0]
    if word in WORDS_THAT_COMPARE:
        number = in_powers(part_put_in(sentence[1], at), None, numbers)[0]
        return said(word, 0 if abs(number) < TINY else 1 if number > 0 else -1)
    if word in ("both", "either"):
        answers = (tried(part, at, numbers) for part in sentence[1])
        return all(answers) if word == "both" else any(answers)
    if word == "not":
        return not tried(sentence[1], at, numbers)
    if word in ("yes", "no"):
        return word == "yes"
    name, reach = sentence[1:]
    rows = [in_powers(row, name, numbers) for row in rows_to_try(reach, at)]
    answers = (tried(reach, at, dict(numbers, **{name: number})) for number in numbers_to_try(rows))
    return any(answers) if word == "some" else all(answers)


def part_put_in(form, at):
    """The form with the fractions put in for their names, as a dict from products to fractions."""
    told = {}
    for product, number in form:
        rest = tuple([pair for pair in product if pair[0] not in at])
        factor = math.prod([Fraction(at[name]) ** power for name, power in product if name in at])
        told[rest] = told.get(rest, 0) + number * factor
    return {product: number for product, number in told.items() if number != 0}


def in_powers(row, name, numbers):
    """The numbers before the powers 0, 1, 2 of the name, the other names being as in numbers."""
    told = [Decimal(0)] * 3
    for product, number in row.items():
        part = Decimal(number.numerator) / Decimal(number.denominator)
        for other, power in product:
            part *= 1 if other == name else numbers[other] ** power
        told[dict(product).get(name, 0)] += part
    return told


def numbers_to_try(rows):
    zeros = []
    for c, b, a in rows:
        inner = b * b - 4 * a * c
        if abs(a) > TINY and inner > -TINY:
            root = inner.sqrt() if inner > TINY else Decimal(0)
            zeros.extend([(-b - root) / (2 * a), (-b + root) / (2 * a)])
        elif abs(a) <= TINY < abs(b):
            zeros.append(-c / b)
    zeros.sort()
    if not zeros:
        return [Decimal(0)]
    return [zeros[0] - 1, zeros[-1] + 1] + zeros + [(one + other) / 2 for one, other in zip(zeros, zeros[1:])]


def rows_to_try(sentence, at):
    """The forms of the sentence, and those that are left of them once the names that it binds have been taken out."""
    word = sentence[0]
    if word in WORDS_THAT_COMPARE:
        return [part_put_in(sentence[1], at)]
    if word in ("both", "either"):
        return [row for part in sentence[1] for row in rows_to_try(part, at)]
    if word == "not":
        return rows_to_try(sentence[1], at)
    if word in ("some", "all"):
        return taken_pair_by_pair(rows_to_try(sentence[2], at), sentence[1])
    return []


def taken_pair_by_pair(rows, name):
    told, moving = [], []
    for row in rows:
        c, b, a = [{tuple([pair for pair in product if pair[0] != name]): number for product, number in row.items()
                    if dict(product).get(name, 0) == power} for power in (0, 1, 2)]
        if a or b:
            told.append(sum_of((1, b, b), (-4, a, c)))
            moving.append((c, b, a))
        else:
            told.append(row)
    for place, (c, b, a) in enumerate(moving):
        for C, B, A in moving[:place]:
            # Where both forms are 0, so is this one.
            ends, starts, rest = [sum_of((1, *first), (-1, *second)) for first, second in
                                  (((a, C), (A, c)), ((a, B), (A, b)), ((b, C), (B, c)))]
            told.append(sum_of((1, ends, ends), (-1, starts, rest)) if a or A else rest)
    return [row for k, row in enumerate(told) if row and row not in told[:k]]


def sum_of(*terms):
    """The sum of products number times row times row."""
    told = {}
    for number, one, other in terms:
        for product, factor in one.items():
            for second, amount in other.items():
                powers = dict(product)
                for name, power in second:
                    powers[name] = powers.get(name, 0) + power
                key = tuple(sorted(powers.items()))
                told[key] = told.get(key, 0) + number * factor * amount
    return {product: number for product, number in told.items() if number != 0}
