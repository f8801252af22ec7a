"""The line of one unknown: points 20 and 21, and of point 2 what touches them."""

import copy
import inspect
import itertools
import random
import unittest
from fractions import Fraction

from helper import GREAT, XX, XY, Timed, X, Y, sign_there
from realsay import errors, line
from realsay.forms import form_of, scaled, times
from realsay.line import between, borders, table
from realsay.roots import order

NOUGHT = ()
FIVE = (((), 5),)
XXX = (("x", 3),)
ROOT_TWO = (0, 1, 2, 1)


def in_x(c, b=0, a=0):
    """The form a x^2 + b x + c."""
    return form_of([((), c), (X, b), (XX, a)])


def zero_at(number):
    """A form that is 0 at the number, and at no other fraction."""
    p, q, r, s = number
    if q == 0:
        return in_x(-p, s)
    return in_x(p * p - q * q * r, -2 * p * s, s * s)


def near_root_two(figures):
    """Two neighbouring fractions, below and above root 2, of about so many figures."""
    top, bottom = 1, 1
    while bottom < 10 ** figures:
        top, bottom = top + 2 * bottom, top + bottom
    pair = [(top, 0, 0, bottom), (top + 2 * bottom, 0, 0, top + bottom)]
    return pair if top * top < 2 * bottom * bottom else pair[::-1]


def count_of_zeros(form):
    """At how many numbers a form in x that is not nought is 0."""
    parts = dict(form)
    a, b, c = parts.get(XX, 0), parts.get(X, 0), parts.get((), 0)
    if a == 0:
        return 1 if b != 0 else 0
    inner = b * b - 4 * a * c
    return 1 + (inner > 0) - (inner < 0)


def some_forms(chance, count, size):
    return [in_x(*[chance.choice((0, chance.randint(-size, size))) for k in range(3)]) for k in range(count)]


class OnTheLine(Timed):
    def assert_strictly_rising(self, numbers):
        for number in numbers:
            self.assert_number(number)
        for one, other in zip(numbers, numbers[1:]):
            self.assertEqual(order(one, other), -1)

    def assert_borders(self, forms, wanted):
        told = borders(forms, "x")
        self.assertIs(type(told), tuple)
        self.assert_strictly_rising(told)
        self.assertEqual(len(told), len(wanted), (forms, told))
        for number, other in zip(told, wanted):
            self.assertEqual(order(number, other), 0, (number, other))

    def assert_line(self, forms, name="x"):
        told = line.line(forms, name)
        self.assertIs(type(told), tuple)
        self.assertEqual(len(told) % 2, 1)
        self.assert_strictly_rising(told)
        self.assertEqual(told[1::2], borders(forms, name))
        for number in told[::2]:
            self.assert_fraction(number)

    def assert_table(self, forms, name="x"):
        told = table(forms, name)
        self.assertIs(type(told), tuple)
        self.assertEqual(tuple([row[0] for row in told]), line.line(forms, name))
        for row in told:
            self.assertIs(type(row), tuple)
            self.assertEqual(len(row), 2)
            self.assertIs(type(row[1]), tuple)
            self.assertEqual(len(row[1]), len(forms))
            for form, sign in zip(forms, row[1]):
                self.assert_sign(sign, sign_there(form, {name: row[0]}))


class Interface(unittest.TestCase):
    def test_names_and_arguments(self):
        wanted = {"borders": ["forms", "name"], "between": ["one", "other"],
                  "line": ["forms", "name"], "table": ["forms", "name"]}
        for name in wanted:
            told = list(inspect.signature(getattr(line, name)).parameters)
            self.assertEqual(told, wanted[name], name)


class Borders(OnTheLine):
    def test_no_forms(self):
        self.assert_borders([], [])

    def test_forms_without_unknowns(self):
        for forms in ([FIVE], [scaled(FIVE, -1)], [FIVE, FIVE], [NOUGHT], [NOUGHT, FIVE, NOUGHT]):
            self.assert_borders(forms, [])

    def test_nought_among_others(self):
        self.assert_borders([NOUGHT, in_x(-1, 2), FIVE, NOUGHT], [(1, 0, 0, 2)])

    def test_the_first_power(self):
        for c, b in itertools.product((-7, -3, 0, 3, 7), (-4, -1, 1, 4)):
            zero = Fraction(-c, b)
            self.assert_borders([in_x(c, b)], [(zero.numerator, 0, 0, zero.denominator)])

    def test_the_second_power_with_no_border(self):
        self.assert_borders([in_x(1, 0, 1), in_x(-1, 0, -1), in_x(1, 1, 1), in_x(-3, 2, -1), in_x(7, -1, 9)], [])

    def test_the_second_power_with_one_border(self):
        for factor in (-3, -1, 1, 2):
            self.assert_borders([scaled(in_x(0, 0, 1), factor)], [(0, 0, 0, 1)])
            self.assert_borders([scaled(in_x(1, -2, 1), factor)], [(1, 0, 0, 1)])
            self.assert_borders([scaled(in_x(9, 12, 4), factor)], [(-3, 0, 0, 2)])

    def test_the_second_power_with_two_borders(self):
        for factor in (-3, -1, 1, 2):
            self.assert_borders([scaled(in_x(-2, 0, 1), factor)], [(0, -1, 2, 1), (0, 1, 2, 1)])
            self.assert_borders([scaled(in_x(-1, -1, 1), factor)], [(1, -1, 5, 2), (1, 1, 5, 2)])
            self.assert_borders([scaled(in_x(-4, 0, 9), factor)], [(-2, 0, 0, 3), (2, 0, 0, 3)])
            self.assert_borders([scaled(in_x(0, 5, 3), factor)], [(-5, 0, 0, 3), (0, 0, 0, 1)])
            self.assert_borders([scaled(in_x(2, 4, 1), factor)], [(-2, -1, 2, 1), (-2, 1, 2, 1)])

    def test_several_forms_in_any_order(self):
        wanted = [(-3, 0, 0, 1), (0, -1, 2, 1), (0, 0, 0, 1), (7, 0, 0, 5), (0, 1, 2, 1), (3, 0, 0, 2)]
        forms = [in_x(-2, 0, 1), in_x(3, 1), in_x(0, 7), in_x(7, -5), in_x(-3, 2)]
        for row in itertools.permutations(forms):
            self.assert_borders(list(row), wanted)

    def test_shared_ones_are_told_once(self):
        self.assert_borders([in_x(-1, 1), in_x(-1, 1)], [(1, 0, 0, 1)])
        self.assert_borders([in_x(-1, 1), in_x(2, -2), in_x(-1, 0, 1)], [(-1, 0, 0, 1), (1, 0, 0, 1)])
        self.assert_borders([in_x(-2, 0, 1), in_x(-2, 0, 1)], [(0, -1, 2, 1), (0, 1, 2, 1)])

    def test_shared_ones_in_two_ways(self):
        # (0 + root 8) / 2 and (0 + root 72) / 6 are the same, as are (0 + root 16) / 2 and 2 / 1.
        for forms in itertools.permutations([in_x(-2, 0, 1), in_x(6, 0, -3), in_x(-50, 0, 25)]):
            self.assert_borders(list(forms), [(0, -1, 2, 1), (0, 1, 2, 1)])
        for forms in itertools.permutations([in_x(-4, 0, 1), in_x(-2, 1), in_x(10, 5)]):
            self.assert_borders(list(forms), [(-2, 0, 0, 1), (2, 0, 0, 1)])
        # x^2 - x and x^2 - 3 x + 2 share 1.
        self.assert_borders([in_x(0, -1, 1), in_x(2, -3, 1)], [(0, 0, 0, 1), (1, 0, 0, 1), (2, 0, 0, 1)])

    def test_very_near_ones(self):
        low, high = near_root_two(29)
        forms = [zero_at(low), zero_at(high), in_x(-2, 0, 1)]
        for row in itertools.permutations(forms):
            self.assert_borders(list(row), [(0, -1, 2, 1), low, (0, 1, 2, 1), high])
        self.assert_borders([in_x(-GREAT, GREAT - 1), in_x(1 - GREAT, GREAT - 2)],
                            [(GREAT, 0, 0, GREAT - 1), (GREAT - 1, 0, 0, GREAT - 2)])
        self.assert_borders([in_x(-GREAT, 0, 1), in_x(1 - GREAT, 0, 1)],
                            [(0, -1, GREAT, 1), (0, -1, GREAT - 1, 1), (0, 1, GREAT - 1, 1), (0, 1, GREAT, 1)])

    def test_thirty_figures(self):
        form = in_x(-GREAT, 10 ** 29 + 7, GREAT - 4)
        inner = (10 ** 29 + 7) ** 2 + 4 * GREAT * (GREAT - 4)
        bottom = 2 * (GREAT - 4)
        wanted = [(-10 ** 29 - 7, -1, inner, bottom), (-10 ** 29 - 7, 1, inner, bottom)]
        self.assert_borders([form], wanted)
        self.assert_borders([scaled(form, -1)], wanted)

    def test_another_name(self):
        told = borders([(((), -1), ((("orange", 1),), 2))], "orange")
        self.assertEqual([order(number, (1, 0, 0, 2)) for number in told], [0])

    def test_forty_forms(self):
        forms = [in_x(-k, 0, 1) for k in range(40)]
        wanted = [(0, -1, k, 1) for k in range(39, 0, -1)] + [(0, 1, k, 1) for k in range(40)]
        self.assert_borders(forms, wanted)
        self.assert_borders(forms[::-1], wanted)

    def test_many_drawn_forms(self):
        chance = random.Random(20)
        for k in range(200):
            forms = some_forms(chance, chance.randint(1, 5), chance.choice((2, 5, GREAT)))
            told = borders(forms, "x")
            self.assert_strictly_rising(told)
            signs = [[sign_there(form, {"x": number}) for number in told] for form in forms]
            for form, row in zip(forms, signs):
                if form != NOUGHT:
                    self.assertEqual(row.count(0), count_of_zeros(form), form)
            for place in range(len(told)):
                self.assertIn(0, [row[place] for form, row in zip(forms, signs) if form != NOUGHT])

    def test_what_is_handed_in_is_as_it_was(self):
        forms = [in_x(3, 1), in_x(-2, 0, 1), NOUGHT, in_x(0, 7)]
        before = copy.deepcopy(forms)
        for asked in (borders, line.line, table):
            asked(forms, "x")
            self.assertEqual(forms, before)


class Refused(OnTheLine):
    HIGH = form_of([((), 2), (XXX, 2)])
    HIGHER = form_of([(X, 4), ((("x", 9),), -2)])
    OTHER = form_of([(Y, 1), ((("b", 1),), 2)])
    MIXED = form_of([(X, 1), ((("c", 1), ("x", 1)), 1)])
    HIGH_OTHER = form_of([((("a", 1), ("x", 5)), 1), (X, 1)])

    def assert_beyond(self, forms, form):
        for asked in (borders, line.line, table):
            self.assert_refused(errors.Beyond, {"name": "x", "form": form}, asked, forms, "x")

    def assert_stranger(self, forms, other):
        for asked in (borders, line.line, table):
            self.assert_refused(errors.Stranger, {"name": other}, asked, forms, "x")

    def test_beyond_for_the_first_one(self):
        self.assert_beyond([self.HIGH], self.HIGH)
        self.assert_beyond([self.HIGHER], self.HIGHER)
        self.assert_beyond([FIVE, in_x(1, 2, 3), self.HIGH, self.HIGHER], self.HIGH)
        self.assert_beyond([self.HIGHER, NOUGHT, self.HIGH], self.HIGHER)

    def test_beyond_from_the_third_power_on(self):
        for power in range(3, 10):
            form = form_of([(X, 1), ((("x", power),), 1)])
            self.assert_beyond([form], form)

    def test_stranger_for_the_first_one(self):
        self.assert_stranger([self.OTHER], "b")
        self.assert_stranger([self.MIXED], "c")
        self.assert_stranger([self.MIXED, self.OTHER], "c")
        self.assert_stranger([FIVE, in_x(1, 2, 3), self.OTHER, self.MIXED], "b")

    def test_stranger_for_the_least_of_the_others(self):
        for names in itertools.permutations(("w", "x", "y", "z")):
            form = form_of([(((name, 1),), place + 1) for place, name in enumerate(names)])
            self.assert_stranger([form], "w")
        self.assert_stranger([form_of([(XY, 1), ((("z", 1),), 1)])], "y")
        self.assert_stranger([form_of([((("xa", 1),), 1), ((("xb", 1),), 1)])], "xa")

    def test_stranger_goes_ahead_of_beyond(self):
        self.assert_stranger([self.HIGH, self.MIXED], "c")
        self.assert_stranger([self.MIXED, self.HIGH], "c")
        self.assert_stranger([self.HIGH, self.HIGHER, self.OTHER, self.MIXED], "b")

    def test_another_unknown_and_a_high_power(self):
        self.assert_stranger([self.HIGH_OTHER], "a")
        self.assert_stranger([self.HIGH, self.HIGH_OTHER], "a")
        self.assert_stranger([self.HIGH_OTHER, self.HIGH], "a")

    def test_a_high_power_of_another_unknown(self):
        self.assert_stranger([form_of([((("y", 7),), 1)])], "y")

    def test_by_another_name(self):
        for asked in (borders, line.line, table):
            self.assert_refused(errors.Stranger, {"name": "x"}, asked, [in_x(1, 1)], "y")


class Between(OnTheLine):
    def assert_between(self, one, other):
        told = between(one, other)
        self.assert_fraction(told)
        self.assertEqual(order(one, told), -1, (one, told, other))
        self.assertEqual(order(told, other), -1, (one, told, other))
        return told

    def test_two_fractions(self):
        numbers = sorted(set([Fraction(top, bottom) for top in range(-9, 10) for bottom in range(1, 7)]))
        for one, other in itertools.combinations(numbers, 2):
            self.assert_between((one.numerator, 0, 0, one.denominator), (other.numerator, 0, 5, other.denominator))

    def test_a_fraction_and_a_root(self):
        for one, other in ((ROOT_TWO, (3, 0, 0, 2)), ((7, 0, 0, 5), ROOT_TWO), ((0, -1, 2, 1), (-7, 0, 0, 5)),
                           ((0, 0, 0, 1), (0, 1, 1, 3)), ((1, 1, 5, 2), (13, 0, 0, 8)), ((0, -1, 3, 7), (0, 0, 0, 1))):
            self.assert_between(one, other)

    def test_unlike_roots(self):
        numbers = [(p, q, r, s) for p in (-2, 0, 1) for q in (-1, 1) for r in (2, 3, 5) for s in (1, 3)]
        for one, other in itertools.permutations(numbers, 2):
            if order(one, other) < 0:
                self.assert_between(one, other)

    def test_like_roots(self):
        self.assert_between((0, -1, 2, 1), (0, 1, 2, 1))
        self.assert_between((0, 1, 2, 1), (0, 2, 2, 1))
        self.assert_between((GREAT, 1, 2, GREAT), (GREAT + 1, 1, 2, GREAT))

    def test_two_ways_to_tell(self):
        for one in ((2, 0, 0, 1), (0, 1, 4, 1), (0, 1, 16, 2), (4, 0, 7, 2), (3, -1, 1, 1)):
            for other in ((3, 0, 0, 1), (0, 1, 9, 1), (1, 1, 4, 1), (30, 0, 3, 10), (4, -1, 1, 1)):
                self.assert_between(one, other)

    def test_near_ones(self):
        for figures in (1, 5, 29, 200):
            low, high = near_root_two(figures)
            self.assert_between(low, ROOT_TWO)
            self.assert_between(ROOT_TWO, high)
            self.assert_between(low, high)
        self.assert_between((GREAT - 1, 0, 0, GREAT), (1, 0, 0, 1))
        self.assert_between((0, 1, GREAT - 1, GREAT), (0, 1, GREAT, GREAT))
        self.assert_between((0, -1, GREAT, GREAT), (0, -1, GREAT - 1, GREAT))

    def test_near_ones_with_unlike_roots(self):
        # (root 3 + p) / s is held as near to root 2 as it can, from both sides.
        s = 10 ** 29
        p = 141421356237309504880168872420
        self.assert_between((p - 1, 1, 3, s), ROOT_TWO)
        self.assert_between(ROOT_TWO, (p, 1, 3, s))

    def test_far_ones(self):
        self.assert_between((-GREAT, 0, 0, 1), (GREAT, 0, 0, 1))
        self.assert_between((-GREAT, -GREAT, GREAT, 1), (GREAT, GREAT, GREAT, 1))
        self.assert_between((0, 0, 0, 1), (0, GREAT, 2, 1))
        self.assert_between((0, 0, 0, 1), (1, 0, 0, GREAT))
        self.assert_between((-1, 0, 0, GREAT), (0, 0, 0, 1))

    def test_what_is_told_is_handed_in_again(self):
        high = (2, 0, 0, 1)
        low = (1, 0, 0, 1)
        for k in range(60):
            high = self.assert_between(ROOT_TWO, high)
            low = self.assert_between(low, ROOT_TWO)
        self.assertEqual(order(low, high), -1)

    def test_drawn_numbers(self):
        chance = random.Random(21)
        for k in range(300):
            size = chance.choice((3, 20, GREAT))
            pair = [(chance.randint(-size, size), chance.randint(-size, size), chance.randint(0, size),
                     chance.randint(1, size)) for place in range(2)]
            side = order(*pair)
            if side != 0:
                self.assert_between(*pair[::-side])


class Lines(OnTheLine):
    def test_no_border(self):
        for forms in ([], [FIVE], [NOUGHT], [in_x(1, 0, 1)], [NOUGHT, FIVE, in_x(-1, 0, -7)]):
            self.assert_line(forms)
            self.assertEqual(len(line.line(forms, "x")), 1)

    def test_one_and_two_borders(self):
        for forms in ([in_x(-3, 2)], [in_x(0, 1)], [in_x(-2, 0, 1)], [in_x(1, 5), in_x(1, -5)], [in_x(0, 0, 3)]):
            self.assert_line(forms)

    def test_borders_that_are_whole_numbers(self):
        forms = [in_x(-k, 1) for k in (-2, -1, 0, 1, 2, GREAT, -GREAT)]
        self.assert_line(forms)
        self.assertEqual(len(line.line(forms, "x")), 15)
        self.assert_line([in_x(-1, 0, 1), in_x(-4, 0, 1), in_x(-9, 0, 1)])

    def test_near_ones(self):
        low, high = near_root_two(29)
        self.assert_line([zero_at(high), in_x(-2, 0, 1), zero_at(low)])
        self.assert_line([in_x(-GREAT, GREAT - 1), in_x(1 - GREAT, GREAT - 2), in_x(-GREAT, 0, 1)])

    def test_shared_borders(self):
        self.assert_line([in_x(-4, 0, 1), in_x(-2, 1), in_x(-8, 0, 2), in_x(-2, 0, 1)])
        self.assertEqual(len(line.line([in_x(-4, 0, 1), in_x(-2, 1), in_x(-8, 0, 2)], "x")), 5)

    def test_another_name(self):
        self.assert_line([(((), -1), ((("orange", 2),), 2))], "orange")

    def test_drawn_forms(self):
        chance = random.Random(22)
        for k in range(150):
            self.assert_line(some_forms(chance, chance.randint(0, 5), chance.choice((2, 9, GREAT))))

    def test_forty_forms(self):
        chance = random.Random(23)
        self.assert_line(some_forms(chance, 40, GREAT))
        self.assert_line(some_forms(chance, 40, 9))


class Tables(OnTheLine):
    def test_no_forms(self):
        self.assert_table([])
        self.assertEqual([signs for number, signs in table([], "x")], [()])

    def test_nought_and_forms_without_unknowns(self):
        self.assert_table([NOUGHT])
        self.assert_table([FIVE, NOUGHT, scaled(FIVE, -1)])
        self.assertEqual([signs for number, signs in table([FIVE, NOUGHT, scaled(FIVE, -1)], "x")], [(1, 0, -1)])

    def test_signs_in_the_order_of_the_forms(self):
        told = table([in_x(-2, 0, 1), NOUGHT, in_x(0, -1), FIVE], "x")
        wanted = [(1, 0, 1, 1), (0, 0, 1, 1), (-1, 0, 1, 1), (-1, 0, 0, 1), (-1, 0, -1, 1), (0, 0, -1, 1),
                  (1, 0, -1, 1)]
        self.assertEqual([signs for number, signs in told], wanted)

    def test_forms_that_come_twice(self):
        self.assert_table([in_x(-2, 1), in_x(-2, 1), in_x(2, -1), in_x(-4, 0, 1)])

    def test_another_name(self):
        self.assert_table([(((), -1), ((("orange", 2),), 2)), ((((("orange", 1),), -1)),)], "orange")

    def test_near_ones(self):
        low, high = near_root_two(29)
        self.assert_table([zero_at(high), in_x(-2, 0, 1), zero_at(low), times(zero_at(low), zero_at(high))])

    def test_drawn_forms(self):
        chance = random.Random(24)
        for k in range(100):
            self.assert_table(some_forms(chance, chance.randint(0, 5), chance.choice((2, 9, GREAT))))

    def test_forty_forms(self):
        self.assert_table(some_forms(random.Random(25), 40, 10 ** 12))


if __name__ == "__main__":
    unittest.main()
