"""The sign of a form at a point: point 10, and of point 2 what touches it."""

import copy
import inspect
import itertools
import random
import unittest

from helper import Timed, sign_there
from realsay import errors, values
from realsay.forms import form_of, plus, scaled, times
from realsay.values import sign_at

GREAT = 10 ** 30 - 1
ONE = (((), 1),)
LESS_ONE = (((), -1),)


def product(**powers):
    return tuple(sorted(powers.items()))


def name(text):
    return ((((text, 1),), 1),)


def whole(number):
    return form_of([((), number)])


class Signs(Timed):
    def assert_nought(self, form, point):
        """The form is 0 at the point, below 0 with 1 less and above 0 with 1 more; so is its opposite."""
        for turned in (form, scaled(form, -1)):
            self.assert_sign(sign_at(turned, point), 0)
            self.assert_sign(sign_at(plus(turned, ONE), point), 1)
            self.assert_sign(sign_at(plus(turned, LESS_ONE), point), -1)


class Interface(unittest.TestCase):
    def test_names_and_arguments(self):
        self.assertEqual(list(inspect.signature(values.sign_at).parameters), ["F", "point"])


class WithoutUnknowns(Signs):
    def test_nought(self):
        self.assert_sign(sign_at((), {}), 0)
        self.assert_sign(sign_at((), {"x": (1, 1, 2, 1)}), 0)

    def test_numbers(self):
        for number in (1, 7, GREAT):
            for point in ({}, {"x": (0, -5, 2, 3)}):
                self.assert_sign(sign_at(whole(number), point), 1)
                self.assert_sign(sign_at(whole(-number), point), -1)


class Fractions(Signs):
    def test_one_name(self):
        for number, wanted in (((3, 0, 0, 2), 1), ((0, 0, 0, 2), 0), ((-3, 0, 0, 2), -1)):
            self.assert_sign(sign_at(name("x"), {"x": number}), wanted)
            self.assert_sign(sign_at(scaled(name("x"), -4), {"x": number}), -wanted)

    def test_nought_and_beside(self):
        # 21 x y + 10, 3 x - 2, 3 x + 7 y + 3 at x = 2/3, y = -5/7.
        point = {"x": (2, 0, 0, 3), "y": (-5, 0, 0, 7)}
        self.assert_nought(form_of([(product(x=1, y=1), 21), ((), 10)]), point)
        self.assert_nought(form_of([(product(x=1), 3), ((), -2)]), point)
        self.assert_nought(form_of([(product(x=1), 3), (product(y=1), 7), ((), 3)]), point)

    def test_bottoms_that_are_not_the_same(self):
        self.assert_nought(form_of([(product(x=1), 1), (product(y=1), 1), ((), -1)]),
                           {"x": (1, 0, 0, 3), "y": (2, 0, 0, 3)})
        self.assert_nought(form_of([(product(x=1), 3), (product(y=1), 4), ((), -2)]),
                           {"x": (1, 0, 0, 3), "y": (1, 0, 0, 4)})
        # One bottom too few or too many turns these: 1/2 + 1/3 is below 1, 1/2 + 2/3 above.
        form = form_of([(product(x=1), 1), (product(y=1), 1), ((), -1)])
        self.assert_sign(sign_at(form, {"x": (1, 0, 0, 2), "y": (1, 0, 0, 3)}), -1)
        self.assert_sign(sign_at(form, {"x": (1, 0, 0, 2), "y": (2, 0, 0, 3)}), 1)

    def test_bottoms_with_several_powers(self):
        # 8 x^3 - 12 x^2 + 6 x - 9 at 3/2 is 27 - 27 + 9 - 9.
        point = {"x": (3, 0, 0, 2)}
        self.assert_nought(form_of([(product(x=3), 8), (product(x=2), -12), (product(x=1), 6), ((), -9)]), point)
        self.assert_nought(form_of([(product(x=9), 512), ((), -(3 ** 9))]), point)
        self.assert_nought(form_of([(product(x=9), 2), (product(x=8), -3)]), point)
        self.assert_nought(form_of([(product(x=4, y=1), 16), (product(y=2), -27)]), dict(point, y=(3, 0, 0, 1)))

    def test_fractions_that_could_be_shorter(self):
        self.assert_nought(form_of([(product(x=2), 9), ((), -4)]), {"x": (-4, 0, 0, 6)})
        self.assert_nought(form_of([(product(x=1), 1), (product(y=1), -1)]), {"x": (4, 0, 0, 6), "y": (10, 0, 0, 15)})


class Roots(Signs):
    def test_one_root(self):
        self.assert_nought(form_of([(product(x=2), 1), ((), -2)]), {"x": (0, 1, 2, 1)})
        self.assert_nought(form_of([(product(x=2), 1), ((), -2)]), {"x": (0, -1, 2, 1)})
        golden = form_of([(product(x=2), 1), (product(x=1), -1), ((), -1)])
        self.assert_nought(golden, {"x": (1, 1, 5, 2)})
        self.assert_nought(golden, {"x": (1, -1, 5, 2)})
        self.assert_nought(golden, {"x": (3, -3, 5, 6)})

    def test_the_sign_of_the_root_part_counts(self):
        form = form_of([(product(x=1), 1), ((), -1)])
        self.assert_sign(sign_at(form, {"x": (0, 1, 2, 1)}), 1)
        self.assert_sign(sign_at(form, {"x": (0, -1, 2, 1)}), -1)
        self.assert_sign(sign_at(form, {"x": (0, 1, 2, 2)}), -1)
        self.assert_sign(sign_at(form, {"x": (3, -1, 2, 1)}), 1)
        self.assert_sign(sign_at(form, {"x": (3, -1, 5, 1)}), -1)

    def test_one_root_in_several_numbers(self):
        point = {"x": (1, 1, 2, 1), "y": (1, -1, 2, 1), "z": (0, 3, 2, 5)}
        self.assert_nought(form_of([(product(x=1, y=1), 1), ((), 1)]), point)
        self.assert_nought(form_of([(product(x=1), 1), (product(y=1), 1), ((), -2)]), point)
        self.assert_nought(form_of([(product(x=1), 3), (product(z=1), -5), ((), -3)]), point)
        self.assert_nought(form_of([(product(y=1, z=1), 5), (product(z=1), -5), ((), 6)]), point)
        self.assert_nought(form_of([(product(x=1, y=1, z=1), 1), (product(z=1), 1)]), point)

    def test_root_and_fraction(self):
        # (1 + root 3) y = y + root 3 y, and root 3 is x - 1.
        point = {"x": (1, 1, 3, 1), "y": (-7, 0, 0, 4), "z": (0, 1, 3, 4)}
        self.assert_nought(form_of([(product(x=1, y=1), 1), (product(y=1), -1), (product(z=1), 7)]), point)
        self.assert_nought(form_of([(product(x=1), 1), (product(z=1), -4), ((), -1)]), point)

    def test_a_root_that_is_a_square(self):
        self.assert_nought(form_of([(product(x=1), 1), ((), -3)]), {"x": (1, 1, 4, 1)})
        self.assert_nought(form_of([(product(x=1), 1), ((), 1)]), {"x": (1, -1, 4, 1)})
        self.assert_nought(form_of([(product(x=1), 2), ((), -13)]), {"x": (1, 3, 16, 2)})
        self.assert_nought(form_of([(product(x=1, y=1), 1), ((), 8)]), {"x": (1, 1, 9, 1), "y": (1, -1, 9, 1)})
        self.assert_nought(form_of([(product(x=3), 1), ((), -125)]), {"x": (5, 7, 0, 1)})
        self.assert_nought(form_of([(product(x=1), 1)]), {"x": (0, 7, 0, 3)})

    def test_r_is_not_looked_at_where_q_is_0(self):
        form = form_of([(product(b=2), 1), (product(a=1), -4), (product(c=1), 1), ((), -3)])
        for other, last in itertools.product((0, 3, 7, 100), repeat=2):
            # b^2 - 4 a + c - 3 at a = 1/2, b = root 2, c = 3; then with the root in a or c instead.
            self.assert_nought(form, {"a": (1, 0, other, 2), "b": (0, 1, 2, 1), "c": (3, 0, last, 1)})
            self.assert_nought(form, {"a": (0, 1, 2, 4), "b": (2, 0, other, 1), "c": (-1, 1, 2, 1)})
            self.assert_nought(form, {"a": (1, 0, other, 4), "b": (2, 0, last, 1), "c": (0, 0, 2, 5)})
        # With q 0, r does not even stand beside a name that has the root.
        for other in (0, 3, 7):
            self.assert_sign(sign_at(form_of([(product(a=1), 1), (product(b=1), -1)]),
                                     {"a": (7, 0, other, 5), "b": (0, 1, 2, 1)}), -1)
            self.assert_sign(sign_at(form_of([(product(x=1), 1), (product(y=1), -1)]),
                                     {"x": (0, 1, 2, 1), "y": (7, 0, other, 5)}), 1)

    def test_very_near_to_nought(self):
        # Of p^2 - 2 q^2 = 1 or -1: p - q root 2 is very near to 0.
        p, q = 1, 1
        while p < 10 ** 29:
            form = form_of([(product(x=1), -q), ((), p)])
            self.assert_sign(sign_at(form, {"x": (0, 1, 2, 1)}), p * p - 2 * q * q)
            self.assert_sign(sign_at(name("x"), {"x": (p, -q, 2, GREAT)}), p * p - 2 * q * q)
            p, q = p + 2 * q, p + q


class Powers(Signs):
    def rooted_power(self, power):
        """The whole numbers a, b with (1 + root 2)^power = a + b root 2."""
        a, b = 1, 0
        for k in range(power):
            a, b = a + 2 * b, a + b
        return a, b

    def test_up_to_nine_and_more(self):
        for power in tuple(range(1, 20)) + (27, 40, 64, 99):
            a, b = self.rooted_power(power)
            form = form_of([(product(x=power), 1), (product(y=1), -b), ((), -a)])
            self.assert_nought(form, {"x": (1, 1, 2, 1), "y": (0, 1, 2, 1)})
            self.assert_nought(form_of([(product(x=power), 3 ** power), ((), -((-5) ** power))]),
                               {"x": (-5, 0, 0, 3)})

    def test_powers_of_several_names(self):
        # (1 + root 2)^9 (1 - root 2)^9 is -1, and with one power more on one side it is -(1 + root 2).
        point = {"x": (1, 1, 2, 1), "y": (1, -1, 2, 1)}
        self.assert_nought(form_of([(product(x=9, y=9), 1), ((), 1)]), point)
        self.assert_nought(form_of([(product(x=9, y=8), 1), (product(x=1), -1)]), point)
        self.assert_nought(form_of([(product(x=10, y=9), 1), (product(x=1), 1)]), point)

    def test_odd_and_even(self):
        for power in range(1, 12):
            self.assert_sign(sign_at(((product(x=power), 1),), {"x": (1, -1, 2, 3)}), (-1) ** power)
            self.assert_sign(sign_at(((product(x=power), 1),), {"x": (-1, 0, 0, 3)}), (-1) ** power)

    def test_time_grows_with_the_figures_of_a_power(self):
        form = name("x")
        for k in range(100):
            form = times(form, form)
        self.assertEqual(form, ((product(x=2 ** 100), 1),))
        for number in (1, -1):
            self.assert_nought(plus(form, LESS_ONE), {"x": (number, 0, 0, 1)})
        self.assert_nought(form, {"x": (0, 0, 0, 1)})


class ThirtyFigures(Signs):
    def test_fractions(self):
        point = {"x": (GREAT, 0, 0, GREAT - 1), "y": (-GREAT, 0, 0, GREAT - 2)}
        self.assert_nought(form_of([(product(x=1), GREAT - 1), ((), -GREAT)]), point)
        self.assert_nought(form_of([(product(x=1), GREAT - 1), (product(y=1), GREAT - 2)]), point)
        self.assert_sign(sign_at(form_of([(product(x=1), 1), (product(y=1), 1)]), point), -1)
        self.assert_sign(sign_at(form_of([(product(x=9), 1), ((), -1)]), point), 1)
        self.assert_sign(sign_at(form_of([(product(y=8), 1), ((), -1)]), point), 1)

    def test_roots(self):
        p, q, r, s = GREAT, -GREAT + 1, GREAT - 2, GREAT - 3
        # s^2 x^2 - 2 p s x + p^2 - q^2 r is 0 at (p + q root r) / s.
        form = form_of([(product(x=2), s * s), (product(x=1), -2 * p * s), ((), p * p - q * q * r)])
        self.assert_nought(form, {"x": (p, q, r, s)})
        self.assert_nought(times(form, form_of([(product(x=7, y=9), GREAT)])),
                           {"x": (p, q, r, s), "y": (1, 1, r, GREAT)})

    def test_many(self):
        chance = random.Random(11)
        names = ("a", "b", "x", "xa", "y")
        for k in range(150):
            size = chance.choice((2, 9, 10 ** 9, GREAT))
            r = chance.choice((0, 1, 2, 4, 5, chance.randint(0, size)))
            point = {}
            for text in names:
                q = chance.choice((0, chance.randint(-size, size)))
                own = r if q else chance.randint(0, size)
                point[text] = (chance.randint(-size, size), q, own, chance.randint(1, size))
            pairs = []
            for j in range(chance.randint(0, 12)):
                chosen = sorted(chance.sample(names, chance.randint(0, 3)))
                pairs.append((tuple([(text, chance.randint(1, 9)) for text in chosen]), chance.randint(-size, size)))
            form = form_of(pairs)
            self.assert_sign(sign_at(form, point), sign_there(form, point))

    def test_what_is_told_may_be_handed_in_again(self):
        form = form_of([(product(x=1), GREAT), (product(y=1), -GREAT), ((), 1)])
        for k in range(4):
            form = times(form, form)
        great = 10 ** 2000 + 7
        self.assertGreater(len(form), 100)
        self.assert_sign(sign_at(form, {"x": (great, 1, 7, great + 1), "y": (0, 1, 7, 1)}), 1)
        # At x = 0, y = 1/GREAT the form is 0.
        self.assert_nought(form, {"x": (0, 0, 0, great), "y": (great, 0, 5, GREAT * great)})


class WhatLacks(Timed):
    FORM = form_of([(product(a=1, z=1), 1), (product(b=1), 1), (product(m=2), 1)])

    def test_one_name(self):
        self.assert_lacks("x", sign_at, name("x"), {})
        self.assert_lacks("x", sign_at, name("x"), {"y": (1, 0, 0, 1), "xa": (1, 0, 0, 1)})
        self.assert_lacks("abcdefgh", sign_at, name("abcdefgh"), {"abcdefgi": (1, 0, 0, 1)})

    def test_the_least_though_others_lack_too(self):
        at = {text: (1, 0, 0, 1) for text in "abmz"}
        for known in itertools.product((False, True), repeat=4):
            point = {text: at[text] for text, there in zip("zmba", known) if there}
            lacking = sorted(set(at) - set(point))
            if lacking:
                self.assert_lacks(lacking[0], sign_at, self.FORM, point)
            else:
                self.assert_sign(sign_at(self.FORM, point), 1)

    def test_a_name_is_needed_where_its_product_is_0_there(self):
        form = form_of([(product(x=1, y=1), 1), ((), 5)])
        self.assert_lacks("y", sign_at, form, {"x": (0, 0, 0, 1)})
        self.assert_lacks("x", sign_at, form, {"y": (0, 0, 0, 1)})

    def test_taken_by_what_stands_above_alone(self):
        caught = self.assert_lacks("x", sign_at, name("x"), {})
        self.assertIsInstance(caught, errors.RealError)
        self.assertIsInstance(caught, ValueError)
        others = (errors.Stranger, errors.Twice, errors.Unbound, errors.Beyond,
                  errors.NoText, errors.NoPaper, errors.Clash, errors.NoFact)
        for kind in others:
            self.assertNotIsInstance(caught, kind)


class ThePoint(Timed):
    FORM = form_of([(product(x=2), 1), (product(y=1), -2)])

    def test_other_names_are_not_looked_at(self):
        point = {"x": (0, 1, 2, 1), "y": (1, 0, 0, 1)}
        for other in ("a", "w", "xa", "z"):
            for number in ((5, 7, 3, 2), (0, 1, 5, 1), None, "x", ()):
                self.assert_sign(sign_at(self.FORM, dict(point, **{other: number})), 0)
                self.assert_sign(sign_at(self.FORM, dict([(other, number)] + list(point.items()))), 0)

    def test_it_is_as_it_was(self):
        point = {"y": (1, 0, 3, 1), "x": (0, 1, 2, 1), "a": (5, 0, 0, 5)}
        before = copy.deepcopy(list(point.items()))
        sign_at(self.FORM, point)
        self.assertEqual(list(point.items()), before)
        self.assertRaises(errors.Lacks, sign_at, name("b"), point)
        self.assertEqual(list(point.items()), before)

    def test_asked_again_behind_a_change(self):
        point = {"x": (0, 1, 2, 1), "y": (1, 0, 0, 1)}
        self.assert_sign(sign_at(self.FORM, point), 0)
        point["y"] = (0, 0, 0, 1)
        self.assert_sign(sign_at(self.FORM, point), 1)
        point["x"] = (0, 0, 0, 1)
        self.assert_sign(sign_at(self.FORM, point), 0)
        point["y"] = (3, 1, 3, 1)
        self.assert_sign(sign_at(self.FORM, point), -1)
        del point["x"]
        self.assert_lacks("x", sign_at, self.FORM, point)


if __name__ == "__main__":
    unittest.main()
