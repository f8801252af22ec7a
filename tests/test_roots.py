"""Numbers with a root: points 8 and 9, and of point 2 what touches them."""

import inspect
import itertools
import math
import random
import unittest
from fractions import Fraction

from helper import Timed
from realsay import roots
from realsay.roots import floor_of, order, sign_one, sign_two

GREAT = 10 ** 30 - 1
# Roots reckoned to so many places behind the point tell a sum of two roots of thirty figures from 0.
FINE = 10 ** 300


def sign(number):
    return (number > 0) - (number < 0)


def near_sign(whole, *rooted):
    """The sign of whole + the sum of v root r, by bounds: 0 where they leave no room for another one."""
    low = whole * FINE
    high = whole * FINE
    for factor, number in rooted:
        square = factor * factor * number * FINE * FINE
        root = math.isqrt(square)
        above = root if root * root == square else root + 1
        low += root if factor >= 0 else -above
        high += above if factor >= 0 else -root
    if low > 0:
        return 1
    if high < 0:
        return -1
    return 0


def some_numbers(chance, count):
    """Numbers told as (p, q, r, s), small and great ones."""
    told = []
    for k in range(count):
        size = chance.choice((3, 20, 10 ** 9, GREAT))
        told.append((chance.randint(-size, size), chance.randint(-size, size),
                     chance.randint(0, size), chance.randint(1, size)))
    return told


class Interface(unittest.TestCase):
    def test_names_and_arguments(self):
        wanted = {"sign_one": ["u", "v", "r"], "sign_two": ["u", "v", "r", "w", "t"],
                  "order": ["one", "other"], "floor_of": ["N"]}
        for name in wanted:
            told = list(inspect.signature(getattr(roots, name)).parameters)
            self.assertEqual(told, wanted[name], name)


class SignOne(Timed):
    def test_each_sign(self):
        for u, v, r in itertools.product(range(-5, 6), range(-5, 6), range(11)):
            self.assert_sign(sign_one(u, v, r), near_sign(u, (v, r)))

    def test_noughts(self):
        self.assert_sign(sign_one(0, 0, 0), 0)
        self.assert_sign(sign_one(0, 0, 7), 0)
        self.assert_sign(sign_one(0, 5, 0), 0)
        self.assert_sign(sign_one(0, -5, 7), -1)
        self.assert_sign(sign_one(-3, 0, 7), -1)
        self.assert_sign(sign_one(3, -100, 0), 1)

    def test_beside_a_square(self):
        for root in (1, 2, 3, 10 ** 6, 10 ** 15 - 1):
            square = root * root
            self.assert_sign(sign_one(root, -1, square), 0)
            self.assert_sign(sign_one(root, -1, square + 1), -1)
            self.assert_sign(sign_one(root, -1, square - 1), 1)
            self.assert_sign(sign_one(-root, 1, square), 0)
            self.assert_sign(sign_one(-root, 1, square + 1), 1)
            self.assert_sign(sign_one(-root, 1, square - 1), -1)

    def test_thirty_figures_and_very_little(self):
        # Of p^2 - 2 q^2 = 1 or -1: p - q root 2 is very near to 0.
        p, q = 1, 1
        while p < 10 ** 29:
            self.assert_sign(sign_one(p, -q, 2), p * p - 2 * q * q)
            self.assert_sign(sign_one(-p, q, 2), 2 * q * q - p * p)
            self.assert_sign(sign_one(p, q, 2), 1)
            self.assert_sign(sign_one(-p, -q, 2), -1)
            p, q = p + 2 * q, p + q
        self.assert_sign(sign_one(GREAT, -GREAT, GREAT), -1)
        self.assert_sign(sign_one(GREAT, -GREAT, 1), 0)

    def test_great(self):
        chance = random.Random(1)
        for k in range(300):
            u, v = chance.randint(-GREAT, GREAT), chance.randint(-GREAT, GREAT)
            r = chance.choice((chance.randint(0, 9), chance.randint(0, GREAT)))
            self.assert_sign(sign_one(u, v, r), near_sign(u, (v, r)))


class SignTwo(Timed):
    def test_each_sign(self):
        numbers = range(-3, 4)
        for u, v, w in itertools.product(numbers, numbers, numbers):
            for r, t in itertools.product((0, 1, 2, 3, 4, 5, 8), repeat=2):
                self.assert_sign(sign_two(u, v, r, w, t), near_sign(u, (v, r), (w, t)))

    def test_noughts(self):
        self.assert_sign(sign_two(0, 0, 0, 0, 0), 0)
        self.assert_sign(sign_two(0, 0, 5, 0, 7), 0)
        self.assert_sign(sign_two(0, 4, 0, -4, 0), 0)
        self.assert_sign(sign_two(-1, 9, 0, 9, 0), -1)
        self.assert_sign(sign_two(0, 0, 5, 2, 7), 1)
        self.assert_sign(sign_two(0, -2, 5, 0, 7), -1)

    def test_roots_that_cancel_out_wholly(self):
        self.assert_sign(sign_two(0, 2, 3, -1, 12), 0)
        self.assert_sign(sign_two(0, -2, 3, 1, 12), 0)
        self.assert_sign(sign_two(0, 7, 5, -7, 5), 0)
        self.assert_sign(sign_two(-5, 1, 4, 1, 9), 0)
        self.assert_sign(sign_two(1, 1, 4, -1, 9), 0)
        self.assert_sign(sign_two(1, 2, 3, -1, 12), 1)
        self.assert_sign(sign_two(-1, 2, 3, -1, 12), -1)
        great = 10 ** 14
        self.assert_sign(sign_two(0, great, 7, -1, 7 * great * great), 0)
        self.assert_sign(sign_two(0, great, 7, -1, 7 * great * great + 1), -1)
        self.assert_sign(sign_two(0, great, 7, -1, 7 * great * great - 1), 1)

    def test_roots_that_cancel_out_but_for_very_little(self):
        # The root of n + 1 less the root of n is a little less than 1 / (2 root n), for any great n.
        for n in (10 ** 2, 10 ** 10, 10 ** 29):
            self.assert_sign(sign_two(0, 1, n + 1, -1, n), 1)
            self.assert_sign(sign_two(0, 1, n, -1, n + 1), -1)
        # The whole number next to great sums of two roots, from both sides.
        for r, t in ((2, 3), (5, 7), (GREAT, GREAT - 1)):
            for v, w in ((10 ** 20, 10 ** 20), (10 ** 29, -(10 ** 28)), (-GREAT, GREAT)):
                scale = 10 ** 100
                near = (sign(v) * math.isqrt(v * v * r * scale * scale)
                        + sign(w) * math.isqrt(w * w * t * scale * scale)) // scale
                self.assert_sign(sign_two(-near - 2, v, r, w, t), -1)
                self.assert_sign(sign_two(-near + 2, v, r, w, t), 1)
                for u in (-near - 1, -near, -near + 1):
                    self.assert_sign(sign_two(u, v, r, w, t), near_sign(u, (v, r), (w, t)))

    def test_squares_and_beside(self):
        for one, other in ((3, 5), (10 ** 7, 10 ** 7 + 1), (10 ** 14, 1)):
            r, t = one * one, other * other
            whole = -one - other
            for more, less in itertools.product((-1, 0, 1), repeat=2):
                told = sign_two(whole, 1, r + more, 1, t + less)
                self.assert_sign(told, near_sign(whole, (1, r + more), (1, t + less)))

    def test_turned_about(self):
        chance = random.Random(2)
        for k in range(300):
            size = chance.choice((4, 100, GREAT))
            u, v, w = [chance.randint(-size, size) for j in range(3)]
            r, t = [chance.randint(0, chance.choice((9, size))) for j in range(2)]
            told = sign_two(u, v, r, w, t)
            self.assert_sign(told, near_sign(u, (v, r), (w, t)))
            self.assert_sign(sign_two(u, w, t, v, r), told)
            self.assert_sign(sign_two(-u, -v, r, -w, t), -told)


class Order(Timed):
    def test_one_number_told_in_two_ways(self):
        same = (
            ((1, 0, 0, 2), (2, 0, 9, 4)),
            ((0, 1, 12, 1), (0, 2, 3, 1)),
            ((0, 1, 12, 1), (0, 4, 3, 2)),
            ((1, 1, 4, 1), (3, 0, 5, 1)),
            ((5, 7, 0, 5), (1, 0, 0, 1)),
            ((-2, -2, 2, 4), (-1, -1, 2, 2)),
            ((0, 0, 5, 3), (0, -6, 0, 7)),
            ((GREAT, GREAT, 5, GREAT), (1, 1, 5, 1)),
        )
        for one, other in same:
            self.assert_sign(order(one, other), 0)
            self.assert_sign(order(other, one), 0)

    def test_before_and_behind(self):
        rising = ((-7, 0, 0, 2), (0, -1, 3, 1), (-3, 1, 2, 1), (0, 0, 1, 1), (1, 0, 5, 3), (1, 1, 5, 9),
                  (1, 0, 0, 2), (-1, 1, 5, 2), (0, 1, 2, 1), (1, 1, 5, 2), (0, 1, 3, 1), (7, 0, 0, 4))
        # -3.5, -1.73, -1.59, 0, 0.33, 0.36, 0.5, 0.62, 1.41, 1.62, 1.73, 1.75
        for i, j in itertools.product(range(len(rising)), repeat=2):
            self.assert_sign(order(rising[i], rising[j]), sign(i - j))

    def test_neighbours(self):
        near = (10 ** 29, 1, 2, 10 ** 29)
        self.assert_sign(order(near, (10 ** 29, 1, 3, 10 ** 29)), -1)
        self.assert_sign(order((GREAT - 1, 0, 0, GREAT), (GREAT - 2, 0, 0, GREAT - 1)), 1)
        self.assert_sign(order((0, 1, 10 ** 28, 1), (10 ** 14, 0, 0, 1)), 0)
        self.assert_sign(order((0, 1, 10 ** 28 + 1, 1), (10 ** 14, 0, 0, 1)), 1)
        self.assert_sign(order((0, 1, 10 ** 28 - 1, 1), (10 ** 14, 0, 0, 1)), -1)
        p, q = 1, 1
        while p < 10 ** 29:
            self.assert_sign(order((p, 0, 0, q), (0, 1, 2, 1)), p * p - 2 * q * q)
            self.assert_sign(order((0, -1, 2, 1), (-p, 0, 0, q)), p * p - 2 * q * q)
            p, q = p + 2 * q, p + q

    def test_many(self):
        chance = random.Random(3)
        told = some_numbers(chance, 40)
        for one, other in itertools.product(told, told):
            p, q, r, s = one
            a, b, c, d = other
            wanted = near_sign(p * d - a * s, (q * d, r), (-b * s, c))
            self.assert_sign(order(one, other), wanted)
            self.assert_sign(order(other, one), -wanted)


class FloorOf(Timed):
    def assert_floor(self, number, wanted):
        told = floor_of(number)
        self.assertIs(type(told), int)
        self.assertEqual(told, wanted, number)

    def test_whole_numbers(self):
        for whole in (0, 1, -1, 12, -12, GREAT, -GREAT):
            self.assert_floor((whole, 0, 0, 1), whole)
            self.assert_floor((whole, 0, 7, 1), whole)
            self.assert_floor((3 * whole, 5, 0, 3), whole)

    def test_fractions(self):
        self.assert_floor((7, 0, 0, 2), 3)
        self.assert_floor((-7, 0, 0, 2), -4)
        self.assert_floor((-1, 0, 0, GREAT), -1)
        self.assert_floor((1, 0, 0, GREAT), 0)

    def test_square_r(self):
        self.assert_floor((0, 1, 9, 1), 3)
        self.assert_floor((0, -1, 9, 1), -3)
        self.assert_floor((1, 2, 25, 11), 1)
        self.assert_floor((1, -2, 25, 9), -1)
        self.assert_floor((0, 1, 10 ** 28, 1), 10 ** 14)
        self.assert_floor((0, -GREAT, 10 ** 28, GREAT), -(10 ** 14))

    def test_beside_a_square(self):
        for root in (2, 3, 10, 10 ** 7, 10 ** 15 - 1):
            square = root * root
            self.assert_floor((0, 1, square - 1, 1), root - 1)
            self.assert_floor((0, -1, square - 1, 1), -root)
            self.assert_floor((0, 1, square + 1, 1), root)
            self.assert_floor((0, -1, square + 1, 1), -root - 1)
            self.assert_floor((-root, 1, square - 1, 1), -1)
            self.assert_floor((root, -1, square + 1, 1), -1)

    def test_every_small_root(self):
        for r in range(1000):
            self.assert_floor((0, 1, r, 1), math.isqrt(r))

    def test_small(self):
        for p, q in itertools.product(range(-6, 7), range(-4, 5)):
            for r, s in itertools.product(range(11), range(1, 5)):
                scale = Fraction(sign(q) * math.isqrt(q * q * r * FINE * FINE), FINE)
                near = math.floor((p + scale) / s)
                wanted = max([near + k for k in (-1, 0, 1) if near_sign(p - s * (near + k), (q, r)) >= 0])
                self.assert_floor((p, q, r, s), wanted)

    def test_thirty_figures(self):
        self.assert_floor((0, GREAT, GREAT, 1), math.isqrt(GREAT ** 3))
        self.assert_floor((0, -GREAT, GREAT, 1), -math.isqrt(GREAT ** 3) - 1)
        self.assert_floor((GREAT, GREAT, GREAT, GREAT), (GREAT + math.isqrt(GREAT ** 3)) // GREAT)
        self.assert_floor((-GREAT, 1, 2, GREAT), -1)
        self.assert_floor((-GREAT, -1, 2, GREAT), -2)

    def test_not_above_and_the_next_one_is(self):
        chance = random.Random(4)
        for p, q, r, s in some_numbers(chance, 400):
            told = floor_of((p, q, r, s))
            self.assertIs(type(told), int)
            self.assertGreaterEqual(near_sign(p - s * told, (q, r)), 0)
            self.assertEqual(near_sign(p - s * (told + 1), (q, r)), -1)

    def test_what_is_told_may_be_handed_in_again(self):
        great = 10 ** 3000 + 7
        self.assert_floor((0, 1, great * great - 1, 1), great - 1)
        self.assert_floor((0, -great, great * great, 1), -great * great)
        self.assert_sign(sign_two(1, great, 2, -1, 2 * great * great), 1)
        self.assert_sign(order((great, 0, 0, great + 1), (great - 1, 0, 0, great)), 1)


if __name__ == "__main__":
    unittest.main()
