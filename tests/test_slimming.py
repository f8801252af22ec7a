"""Sentences made slim: they say the same, and what is settled of them by the parts beside it is left out."""

import itertools
import random
import unittest

from helper import GREAT, NO, WORDS_THAT_COMPARE, XX, XY, YES, Timed, X, Y, drawn, fraction_told, point_told, true_there
from realsay.forms import form_of
from realsay.sentences import both, compare, compares_of, either, free_in
from realsay.slimming import slim
from realsay.texts import read

PLAIN_WORDS = ("both", "either", "leaf")
NUMBERS = (-3, -2, -1, 0, 1, 2, 3)


class Slim(Timed):
    def assert_slim(self, S, numbers=NUMBERS):
        """What is told is plain, says the same, and has no more compares."""
        if isinstance(S, str):
            S = read(S)
        told = slim(S)
        self.assert_plain(told, free_in(S))
        self.assertLessEqual(len(compares_of(told)), len(compares_of(S)))
        for row in itertools.product(numbers, repeat=len(free_in(S))):
            at = point_told(dict(zip(free_in(S), row)))
            self.assertIs(true_there(told, at), true_there(S, at), (S, at))
        return told


class OneForm(Slim):
    SIGNS = ("<", "<=", "=", "/=", ">=", ">")

    def test_two_compares_become_one(self):
        for one, other in itertools.product(self.SIGNS, repeat=2):
            for word in ("and", "or"):
                told = self.assert_slim(f"2*x - y {one} 1 {word} 2*x - y {other} 1")
                self.assertLessEqual(len(compares_of(told)), 1)
                told = self.assert_slim(f"2*x - y {one} 1 {word} y - 2*x {other} -1")
                self.assertLessEqual(len(compares_of(told)), 1)

    def test_what_can_t_be_and_what_must_be(self):
        self.assertEqual(self.assert_slim("x < 1 and x > 1"), NO)
        self.assertEqual(self.assert_slim("x = 1 and 2*x /= 2"), NO)
        self.assertEqual(self.assert_slim("x <= 1 or x > 1"), YES)
        self.assertEqual(self.assert_slim("x /= 1 or x <= 1"), YES)
        self.assertEqual(self.assert_slim("x <= y and y <= x"), read("x = y"))

    def test_with_other_numbers_behind(self):
        bounds = (-4, -1, 0, 1, 3)
        numbers = [number * 0.5 for number in range(-10, 10)]
        for one, other in itertools.product(self.SIGNS, repeat=2):
            for first, second in itertools.product((0, 1), bounds):
                for word in ("and", "or"):
                    self.assert_slim(f"2*x {one} {first} {word} 3*x {other} {second}", numbers)

    def test_the_nearest_bound_stays(self):
        self.assertEqual(self.assert_slim("x < 3 and x < 1 and x < 2"), read("x < 1"))
        self.assertEqual(self.assert_slim("x < 3 or x < 1 or x < 2"), read("x < 3"))
        self.assertEqual(self.assert_slim("x > 3 and x < 1"), NO)
        self.assertEqual(self.assert_slim("x < 3 or x > 1"), YES)
        self.assertEqual(self.assert_slim("x = 2 and x < 3 and x /= 5 and x > 0"), read("x = 2"))
        self.assertEqual(self.assert_slim("2*x < 1 and 3*x < 2"), read("2*x < 1"))
        self.assertEqual(self.assert_slim("x - y < 3 and y - x > -1"), read("x - y < 1"))

    def test_great_numbers(self):
        told = slim(read(f"{GREAT}*x < {GREAT - 1}*y and {GREAT}*x < {GREAT - 1}*y + 1"))
        self.assertEqual(told, read(f"{GREAT}*x < {GREAT - 1}*y"))


class Within(Slim):
    def test_what_is_known_around(self):
        self.assertEqual(self.assert_slim("x < 1 and (x < 2 or y < 0)"), read("x < 1"))
        self.assertEqual(self.assert_slim("x < 1 and (x > 2 or y < 0)"), read("x < 1 and y < 0"))
        self.assertEqual(self.assert_slim("x < 1 or x < 2 and y < 0"), read("x < 1 or x < 2 and y < 0"))
        self.assertEqual(self.assert_slim("x < 2 or x < 1 and y < 0"), read("x < 2"))
        self.assertEqual(self.assert_slim("x < 2 or x > 1 and y < 0"), read("x < 2 or y < 0"))
        self.assertEqual(self.assert_slim("(x > 2 or y < 0) and (y > 1 or x > 3) and x < 1"), NO)
        self.assertEqual(self.assert_slim("x < 1 and (y < 0 or y < 3 and (x < 2 and y > 5 or x > 4))"),
                         read("x < 1 and y < 0"))

    def test_a_part_that_becomes_a_compare_settles_others(self):
        self.assertEqual(self.assert_slim("x < 1 and (x > 2 or y < 0) and (z < 1 or y < 1)"), read("x < 1 and y < 0"))
        self.assertEqual(self.assert_slim("x < 1 and (z < 1 or y < 1) and (x > 2 or y < 0)"), read("x < 1 and y < 0"))
        self.assertEqual(self.assert_slim("x < 1 and (x > 2 or y < 0 and z < 0) and (x = z or y < 1)"),
                         read("x < 1 and y < 0 and z < 0"))
        self.assertEqual(self.assert_slim("x < 1 or x < 2 and y < 0 or (x > 0 and (y >= 0 or y < -1))"),
                         read("y >= 0 or y < -1 or x < 2"))

    def test_parts_of_parts_are_drawn_up(self):
        self.assertEqual(self.assert_slim("(x < 1 and y < 1) and (x < 2 and x /= y)"),
                         both([read("x < 1"), read("y < 1"), read("x /= y")]))
        self.assertEqual(self.assert_slim("(x < 1 or y < 1) or (x < 0 or x = y)"),
                         either([read("x < 1"), read("y < 1"), read("x = y")]))

    def test_what_is_no_join_stays(self):
        for S in (YES, NO, read("x < y"), read("x^2 = 2")):
            self.assertEqual(slim(S), S)

    def test_drawn(self):
        chance = random.Random(7)

        def leaf(chance):
            pairs = [((), chance.randint(-3, 3)), (X, chance.randint(-2, 2)), (Y, chance.randint(-1, 1))]
            pairs += [(chance.choice((XX, XY)), 1)] * (chance.random() < 0.2)
            return compare(chance.choice(WORDS_THAT_COMPARE), form_of(pairs))

        for k in range(250):
            self.assert_slim(drawn(chance, chance.randint(1, 4), PLAIN_WORDS, leaf))

    def test_two_hundred_sentences_within_one_another(self):
        deep = read("x < y")
        for k in range(199):
            deep = either([deep, read(f"x < {k % 7 - 9}*y")]) if k % 2 else both([read(f"y < {k} or x = y"), deep])
        told = slim(deep)
        for row in itertools.product(NUMBERS, repeat=2):
            at = {"x": fraction_told(row[0]), "y": fraction_told(row[1])}
            self.assertIs(true_there(told, at), true_there(deep, at))


if __name__ == "__main__":
    unittest.main()
