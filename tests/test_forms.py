"""Forms: points 4 to 7, and of point 2 what touches them."""

import copy
import inspect
import random
import unittest

from helper import Timed, value
from realsay import forms
from realsay.forms import by_power, form_of, lean, names_of, plus, put_in, scaled, times

# Names that differ in one letter alone, and names that are others with a letter more, among them.
NAMES = ("a", "ab", "abc", "abd", "abcdefgh", "abcdefgi", "b", "x", "xa", "y")
ONE = ((), 1)
X = (("x", 1),)
Y = (("y", 1),)
XX = (("x", 2),)
XY = (("x", 1), ("y", 1))
AX = (("a", 1), ("x", 1))
GREAT = 10 ** 30 - 1
POINTS = (
    dict(zip(NAMES, (2, 3, 5, 7, 11, 13, 17, 19, 23, 29))),
    dict(zip(NAMES, (-31, 37, -41, 43, 47, -53, 59, -61, 67, 71))),
    dict(zip(NAMES, [10 ** (7 * k) + k for k in range(1, 11)])),
)


def any_product(chance):
    names = sorted(chance.sample(NAMES, chance.randint(0, 4)))
    return tuple([(name, chance.randint(1, 9)) for name in names])


def any_number(chance):
    return chance.choice((1, -1, chance.randint(-9, 9), chance.randint(-GREAT, GREAT)))


def any_pairs(chance, count):
    few = [any_product(chance) for k in range(count)]
    return [(chance.choice(few), any_number(chance)) for k in range(count)]


def any_form(chance):
    return form_of(any_pairs(chance, chance.randint(0, 12)))


class Interface(unittest.TestCase):
    def test_names_and_arguments(self):
        wanted = {
            "form_of": ["pairs"], "plus": ["F", "G"], "times": ["F", "G"], "scaled": ["F", "number"],
            "names_of": ["F"], "by_power": ["F", "name"], "lean": ["F"],
            "put_in": ["F", "name", "top", "bottom"],
        }
        for name in wanted:
            told = list(inspect.signature(getattr(forms, name)).parameters)
            self.assertEqual(told, wanted[name], name)


class FormOf(Timed):
    def test_empty_list_is_nought(self):
        self.assertEqual(form_of([]), ())

    def test_product_of_nothing(self):
        self.assertEqual(form_of([((), 7)]), (((), 7),))

    def test_any_order(self):
        rising = [((), 1), ((("a", 1),), 2), ((("a", 1), ("b", 1)), 3), ((("a", 2),), 4), ((("b", 1),), 5)]
        wanted = tuple(rising)
        self.assertEqual(form_of(rising), wanted)
        self.assertEqual(form_of(rising[::-1]), wanted)
        self.assertEqual(form_of(rising[2:] + rising[:2]), wanted)

    def test_products_that_come_more_than_once(self):
        self.assertEqual(form_of([(X, 2), (Y, 1), (X, 3), (X, -1)]), ((X, 4), (Y, 1)))

    def test_numbers_0_are_left_out(self):
        self.assertEqual(form_of([(X, 0), ((), 0), (Y, 1), (Y, 0)]), ((Y, 1),))

    def test_numbers_that_add_up_to_0_are_left_out(self):
        self.assertEqual(form_of([(X, 2), (Y, 5), (X, -2)]), ((Y, 5),))
        self.assertEqual(form_of([(X, GREAT), ((), 1), (X, -GREAT), ((), -1)]), ())

    def test_names_nearly_the_same_are_not_the_same(self):
        pairs = [(((name, 1),), 1) for name in NAMES]
        self.assertEqual(form_of(pairs[::-1]), tuple(sorted(pairs)))
        self.assertEqual(len(form_of(pairs)), len(NAMES))

    def test_a_power_more_is_another_product(self):
        pairs = [((("x", power),), power) for power in range(9, 0, -1)]
        self.assertEqual(form_of(pairs), tuple(pairs[::-1]))

    def test_hundred_pairs_of_thirty_figures(self):
        pairs = [(((NAMES[k % 10], k // 20 + 1),), GREAT - k) for k in range(100)]
        form = form_of(pairs)
        self.assert_form(form)
        self.assertEqual(len(form), 50)
        self.assertEqual(sum([number for product, number in form]), 100 * GREAT - 4950)

    def test_the_list_is_as_it_was(self):
        pairs = [(Y, 1), (X, 2), (X, -2), ((), 0), (Y, GREAT)]
        before = copy.deepcopy(pairs)
        form_of(pairs)
        self.assertEqual(pairs, before)

    def test_same_sum_same_tuple(self):
        chance = random.Random(5)
        for k in range(100):
            pairs = any_pairs(chance, chance.randint(0, 100))
            form = form_of(pairs)
            self.assert_form(form)
            for point in POINTS:
                self.assertEqual(value(form, point), value(pairs, point))
            chance.shuffle(pairs)
            self.assertEqual(form_of(pairs), form)
            self.assertEqual(form_of(list(form)), form)


class Reckoning(Timed):
    F = form_of([(X, 2), (XY, -3), ((), 5)])

    def test_form_and_its_opposite(self):
        self.assertEqual(plus(self.F, scaled(self.F, -1)), ())

    def test_nought_with_anything(self):
        self.assertEqual(plus((), self.F), self.F)
        self.assertEqual(plus(self.F, ()), self.F)
        self.assertEqual(times((), self.F), ())
        self.assertEqual(times(self.F, ()), ())
        self.assertEqual(plus((), ()), ())
        self.assertEqual(times((), ()), ())
        self.assertEqual(scaled((), 4), ())

    def test_one_times_anything(self):
        self.assertEqual(times((ONE,), self.F), self.F)
        self.assertEqual(times(self.F, (ONE,)), self.F)

    def test_scaled(self):
        self.assertEqual(scaled(self.F, 0), ())
        self.assertEqual(scaled(self.F, 1), self.F)
        self.assertEqual(scaled(self.F, -2), (((), -10), (X, -4), (XY, 6)))
        self.assertEqual(scaled(self.F, GREAT), (((), 5 * GREAT), (X, 2 * GREAT), (XY, -3 * GREAT)))

    def test_plus_puts_products_in_their_order(self):
        self.assertEqual(plus(((Y, 1),), ((X, 1),)), ((X, 1), (Y, 1)))
        self.assertEqual(plus(((XX, 1),), ((XY, 1),)), ((XY, 1), (XX, 1)))

    def test_plus_leaves_out_what_becomes_0(self):
        self.assertEqual(plus(((X, 2), (Y, 1)), ((X, -2), (Y, 1))), ((Y, 2),))

    def test_times_puts_names_in_their_order(self):
        self.assertEqual(times(((X, 2),), (((("a", 1),), 3),)), ((AX, 6),))

    def test_times_adds_powers(self):
        self.assertEqual(times(((XY, 1),), ((XX, 1),)), (((("x", 3), ("y", 1)), 1),))
        high = (((("x", 9),), 1),)
        self.assertEqual(times(high, high), (((("x", 18),), 1),))

    def test_times_leaves_out_what_becomes_0(self):
        self.assertEqual(times(((X, 1), (Y, 1)), ((X, 1), (Y, -1))), ((XX, 1), ((("y", 2),), -1)))

    def test_names_nearly_the_same_stay_apart(self):
        left = (((("ab", 1),), 1),)
        right = (((("abc", 1),), 1), ((("abd", 1),), 1))
        wanted = (((("ab", 1), ("abc", 1)), 1), ((("ab", 1), ("abd", 1)), 1))
        self.assertEqual(times(left, right), wanted)
        self.assertEqual(times(right, left), wanted)

    def test_against_values(self):
        chance = random.Random(6)
        for k in range(60):
            one = any_form(chance)
            other = any_form(chance)
            number = any_number(chance)
            added = plus(one, other)
            product = times(one, other)
            for form in (added, product, scaled(one, number)):
                self.assert_form(form)
            self.assertEqual(plus(other, one), added)
            self.assertEqual(times(other, one), product)
            for point in POINTS:
                self.assertEqual(value(added, point), value(one, point) + value(other, point))
                self.assertEqual(value(product, point), value(one, point) * value(other, point))
                self.assertEqual(value(scaled(one, number), point), value(one, point) * number)

    def test_no_new_names(self):
        chance = random.Random(7)
        for k in range(60):
            one = any_form(chance)
            other = any_form(chance)
            old = set(names_of(one)) | set(names_of(other))
            for form in (plus(one, other), times(one, other)):
                self.assertLessEqual(set(names_of(form)), old)
            self.assertEqual(names_of(scaled(one, -3)), names_of(one))

    def test_what_is_told_may_be_handed_in_again(self):
        form = ((X, GREAT), (Y, -GREAT))
        for k in range(4):
            form = times(form, form)
        self.assert_form(form)
        self.assertEqual(len(form), 17)
        point = {"x": 5, "y": 3}
        self.assertEqual(value(form, point), (2 * GREAT) ** 16)


class NamesOf(Timed):
    def test_none(self):
        self.assertEqual(names_of(()), ())
        self.assertEqual(names_of((((), 5),)), ())

    def test_rising_each_once(self):
        form = form_of([(XY, 1), (AX, 2), (XX, 3), ((), 4), ((("xa", 1),), 5)])
        self.assertEqual(names_of(form), ("a", "x", "xa", "y"))

    def test_names_nearly_the_same(self):
        form = form_of([(((name, 2),), 1) for name in NAMES])
        self.assertEqual(names_of(form), tuple(sorted(NAMES)))


class ByPower(Timed):
    def together(self, parts, name):
        form = ()
        power = (ONE,)
        for part in parts:
            form = plus(form, times(part, power))
            power = times(power, ((((name, 1),), 1),))
        return form

    def test_nought(self):
        self.assertEqual(by_power((), "x"), ((),))

    def test_name_that_does_not_stand_in_it(self):
        form = form_of([(Y, 1), ((("xa", 2),), 3), ((), 2)])
        self.assertEqual(by_power(form, "x"), (form,))

    def test_highest_power_alone(self):
        form = (((("x", 4), ("y", 1)), 3),)
        self.assertEqual(by_power(form, "x"), ((), (), (), (), ((Y, 3),)))
        self.assertEqual(by_power((((("x", 9),), -1),), "x"), ((),) * 9 + ((((), -1),),))

    def test_each_power(self):
        form = form_of([((), 1), (X, 2), (XX, 3), (XY, 4), (Y, 5)])
        self.assertEqual(by_power(form, "x"), ((((), 1), (Y, 5)), (((), 2), (Y, 4)), (((), 3),)))

    def test_products_rise_without_the_name_too(self):
        form = form_of([(AX, 1), (X, 1)])
        self.assertEqual(form, ((AX, 1), (X, 1)))
        self.assertEqual(by_power(form, "x"), ((), (((), 1), ((("a", 1),), 1))))

    def test_put_together_again(self):
        chance = random.Random(8)
        for k in range(60):
            form = any_form(chance)
            for name in NAMES:
                parts = by_power(form, name)
                self.assertIs(type(parts), tuple)
                for part in parts:
                    self.assert_form(part)
                    self.assertNotIn(name, names_of(part))
                highest = max([dict(product).get(name, 0) for product, number in form], default=0)
                self.assertEqual(len(parts), highest + 1)
                self.assertTrue(highest == 0 or parts[-1] != ())
                self.assertEqual(self.together(parts, name), form)


class Lean(Timed):
    def test_nought_stays(self):
        self.assertEqual(lean(()), ())

    def test_one_pair(self):
        self.assertEqual(lean(((X, 12),)), ((X, 1),))
        self.assertEqual(lean((((), GREAT),)), (ONE,))

    def test_one_pair_below_0(self):
        self.assertEqual(lean(((X, -12),)), ((X, -1),))
        self.assertEqual(lean((((), -1),)), (((), -1),))

    def test_numbers_below_0(self):
        self.assertEqual(lean(((X, -4), (Y, -6))), ((X, -2), (Y, -3)))
        self.assertEqual(lean(((X, -4), (Y, 6))), ((X, -2), (Y, 3)))
        self.assertEqual(lean(((X, 4), (Y, -6))), ((X, 2), (Y, -3)))

    def test_greatest_common_divisor_1(self):
        form = (((), 6), (X, 10), (Y, 15))
        self.assertEqual(lean(form), form)

    def test_thirty_figures(self):
        form = (((), 6 * 10 ** 28), (X, -10 * 10 ** 28), (Y, 15 * 10 ** 28))
        self.assertEqual(lean(form), (((), 6), (X, -10), (Y, 15)))
        neighbours = ((X, GREAT), (Y, GREAT - 1))
        self.assertEqual(lean(neighbours), neighbours)

    def test_many(self):
        chance = random.Random(9)
        for k in range(60):
            form = any_form(chance)
            thin = lean(form)
            self.assert_form(thin)
            self.assertEqual(lean(thin), thin)
            factor = chance.randint(1, GREAT)
            self.assertEqual(lean(scaled(form, factor)), thin)
            self.assertEqual(lean(scaled(form, -factor)), scaled(thin, -1))


class PutIn(Timed):
    # x^2 y + 3 x - 2
    F = form_of([((("x", 2), ("y", 1)), 1), (X, 3), ((), -2)])

    def test_fraction(self):
        self.assertEqual(put_in(self.F, "x", 2, 3), ((Y, 4),))
        self.assertEqual(put_in(self.F, "x", 1, 2), (((), -2), (Y, 1)))

    def test_fraction_is_not_made_shorter(self):
        self.assertEqual(put_in(self.F, "x", 2, 4), (((), -8), (Y, 4)))
        self.assertEqual(put_in(((X, 1),), "x", 6, 3), (((), 6),))
        self.assertEqual(put_in(((X, 1), (Y, 1)), "x", 0, 3), ((Y, 3),))

    def test_what_comes_out_is_not_made_lean(self):
        self.assertEqual(put_in(((X, 2), (Y, 4)), "x", 1, 1), (((), 2), (Y, 4)))

    def test_top_0(self):
        self.assertEqual(put_in(self.F, "x", 0, 1), (((), -2),))
        self.assertEqual(put_in(self.F, "x", 0, 5), (((), -50),))
        self.assertEqual(put_in(((X, 1),), "x", 0, 5), ())

    def test_top_below_0(self):
        self.assertEqual(put_in(self.F, "x", -1, 2), (((), -14), (Y, 1)))
        self.assertEqual(put_in((((("x", 3),), 1),), "x", -2, 1), (((), -8),))

    def test_name_that_does_not_stand_in_it(self):
        self.assertEqual(put_in(self.F, "z", 7, 3), self.F)
        self.assertEqual(put_in(self.F, "xa", 7, 3), self.F)
        self.assertEqual(put_in((), "x", 7, 3), ())
        self.assertEqual(put_in((((), 4),), "x", 7, 3), (((), 4),))

    def test_comes_out_as_nought(self):
        self.assertEqual(put_in(((XY, 2), (Y, -3)), "x", 3, 2), ())
        self.assertEqual(put_in((((), -9), (XX, 4)), "x", -3, 2), ())

    def test_products_that_come_together(self):
        self.assertEqual(put_in(form_of([(AX, 1), ((("a", 1),), 1), (X, 1)]), "x", 5, 1),
                         (((), 5), ((("a", 1),), 6)))

    def test_highest_power_of_the_name_counts(self):
        form = (((("x", 9),), 1), ((("y", 9),), 1))
        self.assertEqual(put_in(form, "x", 2, 3), (((), 2 ** 9), ((("y", 9),), 3 ** 9)))

    def test_against_values(self):
        chance = random.Random(10)
        for k in range(60):
            form = any_form(chance)
            name = chance.choice(NAMES)
            top = chance.choice((0, 1, -1, chance.randint(-20, 20), chance.randint(-GREAT, GREAT)))
            bottom = chance.choice((1, 2, chance.randint(1, 20), chance.randint(1, GREAT)))
            told = put_in(form, name, top, bottom)
            self.assert_form(told)
            self.assertLessEqual(set(names_of(told)), set(names_of(form)) - {name})
            highest = max([dict(product).get(name, 0) for product, number in form], default=0)
            for point in POINTS:
                there = dict(point)
                # bottom^k times the value at top / bottom, with whole numbers alone.
                wanted = 0
                for product, number in form:
                    power = dict(product).get(name, 0)
                    rest = tuple([pair for pair in product if pair[0] != name])
                    factor = top ** power * bottom ** (highest - power)
                    wanted += value(((rest, number),), there) * factor
                self.assertEqual(value(told, there), wanted)


if __name__ == "__main__":
    unittest.main()
