"""Test points: points 23 and 24, and of point 2 what touches them."""

import copy
import inspect
import itertools
import random
import unittest
from fractions import Fraction

from helper import (GREAT, NO, WORDS_THAT_COMPARE, XX, XY, YES, Timed, X, Y, fraction_told, said, sign_there,
                    true_there, value)
from realsay import errors, points
from realsay.forms import form_of, names_of, plus, scaled, times
from realsay.holding import holds
from realsay.points import Border, Far, Past, Point
from realsay.sentences import compares_of, free_in
from realsay.texts import read

NOUGHT = ()
YYX = (("x", 1), ("y", 2))
# So little above a border, and so far below, that no form of small numbers changes its sign there, or none of thirty
# figures.
SMALL = 10 ** 60
FINE = 10 ** 1000
SOME_Y = [Fraction(top, bottom) for top, bottom in
          ((0, 1), (1, 1), (-1, 1), (1, 2), (-1, 2), (2, 1), (-2, 1), (4, 1), (-5, 3), (9, 4), (7, 1))]
AT_Y = [{"y": number} for number in SOME_Y]
AT_YZ = [{"y": one, "z": other} for one, other in itertools.product(SOME_Y[:7], SOME_Y[2:9])]


def form(text):
    """The form that the text, a sum, stands for, not made lean."""
    pairs = []
    for term in text.replace("- ", "+ -").split("+"):
        number = 1
        powers = {}
        for factor in term.strip().split("*"):
            if factor.lstrip("-").isdigit():
                number *= int(factor)
            else:
                number *= -1 if factor[0] == "-" else 1
                name, mark, power = factor.lstrip("-").partition("^")
                powers[name] = int(power or 1)
        pairs.append((tuple(sorted(powers.items())), number))
    return form_of(pairs)


def told_number(whole, rooted, inner):
    """The number whole + rooted times the root of inner, which are fractions, told as in point 8."""
    # The root of m / n is the root of m n, divided by n.
    rooted = rooted / inner.denominator
    bottom = whole.denominator * rooted.denominator
    return (whole.numerator * rooted.denominator, rooted.numerator * whole.denominator,
            inner.numerator * inner.denominator, bottom)


class Putting(Timed):
    def place(self, kind, four, at, fine=SMALL):
        """The place that the point stands for where the others are as told, or None where its guard should not hold."""
        if kind is Far:
            return (-fine, 0, 0, 1)
        P, q, R, S = four
        bottom = value(S, at)
        inner = value(R, at) if q != 0 else Fraction(0)
        if bottom == 0 or inner < 0:
            return None
        more = Fraction(1, fine) if kind is Past else 0
        return told_number(value(P, at) / bottom + more, q / bottom, inner)

    def assert_put(self, kind, four, F, others, fine=SMALL):
        """Guard and compares of the form at the point are as point 23 says, where the others are as told."""
        point = kind(*four)
        names = set()
        if four:
            names.update(names_of(four[0] + four[3]), names_of(four[2]) if four[1] != 0 else ())
        guard = point.guard()
        self.assert_plain(guard, names)
        names.update(names_of(F))
        put = {word: point.into(word, F, "x") for word in WORDS_THAT_COMPARE}
        for told in put.values():
            self.assert_plain(told, names - {"x"})
        for at in others:
            numbers = {name: fraction_told(number) for name, number in at.items()}
            place = self.place(kind, four, at, fine)
            self.assertIs(holds(guard, numbers), place is not None, (four, at))
            if place is not None:
                sign = sign_there(F, dict(numbers, x=place))
                for word in WORDS_THAT_COMPARE:
                    self.assertIs(holds(put[word], numbers), said(word, sign), (kind, four, word, F, at))

    def assert_put_everywhere(self, four, forms, others):
        for F in forms:
            self.assert_put(Border, four, F, others)
            self.assert_put(Past, four, F, others)


class Interface(unittest.TestCase):
    def test_classes(self):
        for kind in (Far, Border, Past):
            self.assertTrue(issubclass(kind, Point))
        self.assertIsInstance(Far(), Point)
        self.assertIsInstance(Border((), 0, (), (((), 1),)), Point)
        self.assertIsInstance(Past((), 0, (), (((), 1),)), Point)

    def test_none_of_them_is_another_one(self):
        for one, other in itertools.permutations((Far, Border, Past), 2):
            self.assertFalse(issubclass(one, other))

    def test_arguments(self):
        for kind in (points.Point, points.Far, points.Border, points.Past):
            self.assertEqual(list(inspect.signature(kind.guard).parameters), ["self"])
            self.assertEqual(list(inspect.signature(kind.into).parameters), ["self", "word", "F", "name"])
        for kind in (points.Border, points.Past):
            self.assertEqual(list(inspect.signature(kind).parameters), ["P", "q", "R", "S"])
        self.assertEqual(list(inspect.signature(points.Far).parameters), [])


class Guards(Putting):
    def assert_guard(self, four, wanted):
        """The guard holds at just the y of which this is true."""
        for kind in (Border, Past):
            told = kind(*four).guard()
            self.assert_plain(told, names_of(four[3]) + (names_of(four[2]) if four[1] != 0 else ()))
            for y in SOME_Y:
                self.assertIs(true_there(told, {"y": fraction_told(y)}), wanted(y), (four, y))

    def test_of_far(self):
        self.assertEqual(Far().guard(), YES)

    def test_numbers_alone(self):
        P = form("y + 1")
        for q, R, S in itertools.product((1, 0, -1), (-7, -1, 0, 1, 2, 7), (-3, -1, 0, 1, 2)):
            wanted = YES if S != 0 and (q == 0 or R >= 0) else NO
            for kind in (Border, Past):
                told = kind(P, q, form_of([((), R)]), form_of([((), S)])).guard()
                self.assertEqual(told, wanted, (q, R, S))

    def test_forms(self):
        P = form("3*y - 5")
        for q in (1, -1):
            self.assert_guard((P, q, form("y"), form("2")), lambda y: y >= 0)
            self.assert_guard((P, q, form("-y^2 + 4"), form("-2")), lambda y: -2 <= y <= 2)
            self.assert_guard((P, q, form("4"), form("y - 1")), lambda y: y != 1)
            self.assert_guard((P, q, NOUGHT, form("y^2 - 4")), lambda y: y not in (-2, 2))
            self.assert_guard((P, q, form("y"), form("y - 1")), lambda y: y >= 0 and y != 1)
            self.assert_guard((P, q, form("y"), form("y")), lambda y: y > 0)
            self.assert_guard((P, q, form("-1"), form("y")), lambda y: False)
            self.assert_guard((P, q, form("y"), NOUGHT), lambda y: False)
            self.assert_guard((P, q, form("y^2"), form("6*y - 3")), lambda y: y != Fraction(1, 2))

    def test_forms_where_q_is_nought(self):
        P = form("y")
        for R in (form("y"), form("-1"), NOUGHT, form("z"), form("x^7"), None):
            self.assert_guard((P, 0, R, form("y - 1")), lambda y: y != 1)
            self.assert_guard((P, 0, R, form("-4")), lambda y: True)
            self.assert_guard((P, 0, R, NOUGHT), lambda y: False)
            self.assert_guard((P, 0, R, form("2*y - 1")), lambda y: y != Fraction(1, 2))

    def test_names_of_p_are_none_of_the_guard(self):
        for q in (1, 0, -1):
            told = Border(form("p"), q, form("r"), form("s")).guard()
            self.assertEqual(free_in(told), ("r", "s") if q != 0 else ("s",))


class FarBelow(Putting):
    def test_numbers_alone(self):
        for c, b, a in itertools.product((-3, 0, 2), repeat=3):
            self.assert_put(Far, (), form_of([((), c), (X, b), (XX, a)]), [{}])

    def test_what_is_told_of_numbers_alone(self):
        self.assertEqual(Far().into("less", form("x"), "x"), YES)
        self.assertEqual(Far().into("less", form("-x"), "x"), NO)
        self.assertEqual(Far().into("most", form("x^2 - 100"), "x"), NO)
        self.assertEqual(Far().into("unlike", form("x^2 - 100"), "x"), YES)
        self.assertEqual(Far().into("equal", form("x - 1"), "x"), NO)

    def test_forms_before_the_powers(self):
        for c, b, a in itertools.product((NOUGHT, form("y"), form("-2*y + 1"), form("3")), repeat=3):
            F = plus(c, plus(times(b, ((X, 1),)), times(a, ((XX, 1),))))
            self.assert_put(Far, (), F, AT_Y)

    def test_where_the_highest_is_nought(self):
        self.assert_put(Far, (), form("y*x^2 + y*x + y"), AT_Y)
        self.assert_put(Far, (), form("y*x^2 + z*x + 1"), AT_YZ)
        self.assert_put(Far, (), form("y*x^2 - z*x"), AT_YZ)
        self.assert_put(Far, (), form("y*x + z"), AT_YZ)
        self.assert_put(Far, (), form("y*z*x^2 + y*x - z*x - y - z"), AT_YZ)

    def test_without_the_name(self):
        for F in (form("y"), form("2*y^9 - 4"), form("7"), form("-7"), NOUGHT):
            self.assert_put(Far, (), F, AT_Y)

    def test_another_name(self):
        self.assertEqual(Far().into("less", form("x + orange"), "orange"), YES)
        told = Far().into("less", form("x*orange"), "orange")
        self.assertEqual([true_there(told, {"x": fraction_told(y)}) for y in SOME_Y], [y > 0 for y in SOME_Y])


class AtABorder(Putting):
    FORMS = [form(text) for text in (
        "x", "-x", "x - 1", "2*x + 4", "-3*x + 7", "x^2", "-x^2", "x^2 - 2", "-6*x^2 + 12", "x^2 - 2*x + 1",
        "x^2 + x + 1", "x^2 - 2*x - 1", "-x^2 + 4*x - 2", "2*x^2 + x - 1", "3*x^2 - 6*x")]
    FORMS_IN_Y = [form(text) for text in (
        "x - y", "y*x - 1", "y*x + y", "x^2 - y", "-x^2 + y", "x^2 - 2*y*x + y^2", "y*x^2 - 2*x + 1", "y*x^2 + y*x + y",
        "2*y*x^2 - 4*y", "-y*x^2 + x", "y^2*x^2 - y*x", "x^2 + y*x + 1")]

    def test_without_a_root(self):
        for P, S in itertools.product((-4, -1, 0, 1, 3), (-2, -1, 1, 3)):
            four = (form_of([((), P)]), 0, NOUGHT, form_of([((), S)]))
            self.assert_put_everywhere(four, self.FORMS, [{}])

    def test_with_a_root(self):
        for P, q, R, S in itertools.product((-1, 0, 1, 2), (1, -1), (0, 1, 2, 5, 8), (-2, -1, 1, 2)):
            four = [form_of([((), number)]) for number in (P, R, S)]
            self.assert_put_everywhere((four[0], q, four[1], four[2]), self.FORMS, [{}])

    def test_what_is_told_of_numbers_alone(self):
        # At root 2 and a little above it.
        four = (NOUGHT, 1, form("8"), form("2"))
        for word, here, above in (("less", NO, NO), ("most", YES, NO), ("equal", YES, NO), ("unlike", NO, YES)):
            self.assertEqual(Border(*four).into(word, form("x^2 - 2"), "x"), here)
            self.assertEqual(Past(*four).into(word, form("x^2 - 2"), "x"), above)

    def test_a_root_that_moves(self):
        for P, S in itertools.product((form("y"), NOUGHT), (form("2"), form("-1"), form("y - 1"), form("-y"))):
            for q, R in itertools.product((1, -1), (form("y"), form("-y^2 + 4"), form("5"), NOUGHT, form("y^2"))):
                self.assert_put_everywhere((P, q, R, S), self.FORMS_IN_Y[::2] + self.FORMS[8:11], AT_Y)

    def test_a_fraction_that_moves(self):
        for P, S in itertools.product((form("y"), form("-y + 3"), form("1"), NOUGHT),
                                      (form("2"), form("-1"), form("y"), form("-y - 1"), form("y^2 - 4"))):
            self.assert_put_everywhere((P, 0, form("-1"), S), self.FORMS_IN_Y + self.FORMS[8:11], AT_Y)

    def test_a_root_below_nought_and_nought_below(self):
        # The guard holds nowhere: what is told then is free, but it is told.
        for four in ((form("y"), 1, form("-2"), form("1")), (form("y"), -1, form("y"), NOUGHT),
                     (form("1"), 0, form("1"), NOUGHT)):
            self.assert_put_everywhere(four, self.FORMS_IN_Y, AT_Y)

    def test_the_borders_of_the_form_itself(self):
        for a, b, c in ((1, "y", "1"), (1, "0", "-y"), (-2, "y", "y - 1"), (3, "-y - 1", "-y"), (1, "2*y", "y^2"),
                        (-1, "0", "0")):
            b, c = form(b), form(c)
            F = plus(c, plus(times(b, ((X, 1),)), ((XX, a),)))
            inner = plus(times(b, b), scaled(c, -4 * a))
            for q in (1, -1):
                four = (scaled(b, -1), q, inner, (((), 2 * a),))
                self.assert_put_everywhere(four, [F, scaled(F, -1), scaled(F, 6), plus(F, form("y"))], AT_Y)
                equal = Border(*four).into("equal", F, "x")
                for y in SOME_Y:
                    if value(inner, {"y": y}) >= 0:
                        self.assertTrue(true_there(equal, {"y": fraction_told(y)}))

    def test_the_border_of_a_form_of_the_first_power(self):
        for b, c in itertools.product((form("y"), form("-y + 1"), form("-3")), (form("1"), form("y - 2"), NOUGHT)):
            F = plus(c, times(b, ((X, 1),)))
            for factor in (F, scaled(F, -2), times(F, form("y"))):
                self.assert_put_everywhere((scaled(c, -1), 0, NOUGHT, b), [factor], AT_Y)

    def test_where_the_slope_is_nought_too(self):
        # (x - y)^2 is 0 at y, and so is its slope; y (x - y)^2 + (x - 1) (x - y) may have any slope there.
        square = form("x^2 - 2*x*y + y^2")
        other = form("x^2 - x*y - x + y")
        for four in ((form("y"), 0, NOUGHT, form("1")), (form("-2*y"), 0, NOUGHT, form("-2"))):
            forms = [square, scaled(square, -1), times(square, form("y")), other,
                     plus(times(square, form("y")), other), plus(times(square, form("y")), scaled(other, -1))]
            self.assert_put_everywhere(four, forms, AT_Y)

    def test_where_the_root_is_nought(self):
        for q in (1, -1):
            for S in (form("1"), form("-1"), form("y - 7")):
                self.assert_put_everywhere((form("y"), q, NOUGHT, S), self.FORMS_IN_Y, AT_Y)
                self.assert_put_everywhere((form("y"), q, form("y^2 - y"), S), self.FORMS_IN_Y, AT_Y)

    def test_without_the_name(self):
        for four in ((form("y"), 1, form("y"), form("y")), (form("y"), 0, NOUGHT, form("-2"))):
            self.assert_put_everywhere(four, [form("y"), form("-4*y^9 + 6"), form("6"), form("-6"), NOUGHT], AT_Y)

    def test_two_others(self):
        forms = [form(text) for text in ("x^2 + y*x + z", "z*x^2 - y", "y*x - z", "y*z*x^2 + x - 1", "z*x + y*x")]
        self.assert_put_everywhere((form("-y"), 1, form("y^2 - 4*z"), form("2")), forms, AT_YZ)
        self.assert_put_everywhere((form("-y"), -1, form("y^2 - 4*z"), form("-2")), forms, AT_YZ)
        self.assert_put_everywhere((form("-z"), 0, NOUGHT, form("y")), forms, AT_YZ)
        self.assert_put_everywhere((form("y + z"), -1, form("y*z"), form("y - z")), forms, AT_YZ)

    def test_drawn(self):
        chance = random.Random(23)

        def some_form(most, products):
            return form_of([(chance.choice(products), chance.randint(-3, 3)) for k in range(chance.randint(0, most))])

        rest = ((), (), Y, (("y", 2),), (("z", 1),), (("y", 1), ("z", 1)))
        for k in range(250):
            F = some_form(5, rest + (X, XX, X, XX, XY, (("x", 2), ("y", 1)), (("x", 2), ("z", 1)), YYX))
            four = (some_form(2, rest), chance.choice((1, 0, -1)), some_form(2, rest), some_form(2, rest))
            others = chance.sample(AT_YZ, 6)
            self.assert_put_everywhere(four, [F], others)
            self.assert_put(Far, (), F, others)

    def test_thirty_figures(self):
        big = [form_of([((), GREAT - 4), (Y, 3 - GREAT)]), form_of([(Y, GREAT), (((("y", 2),)), 1)]),
               form_of([((), -GREAT), (Y, GREAT - 1)])]
        F = form_of([((), GREAT - 2), (X, -GREAT), (XY, 1 - GREAT), (XX, GREAT - 8)])
        others = AT_Y + [{"y": Fraction(GREAT, GREAT - 1)}, {"y": Fraction(-1, GREAT)}]
        for q in (1, 0, -1):
            for kind in (Border, Past):
                self.assert_put(kind, (big[0], q, big[1], big[2]), F, others, FINE)
        self.assert_put(Far, (), F, others, FINE)

    def test_twelve_products_and_powers_of_nine(self):
        chance = random.Random(24)

        def great_form(highest):
            pairs = {}
            while len(pairs) < 12:
                product = [("x", chance.randint(0, highest)), ("y", chance.randint(0, 9)), ("z", chance.randint(0, 9))]
                pairs[tuple([pair for pair in product if pair[1] > 0])] = chance.randint(-GREAT, GREAT)
            return form_of(list(pairs.items()))

        for kind, q in ((Past, 0), (Border, 1)):
            four = (great_form(0), q, great_form(0), great_form(0))
            self.assert_put(kind, four, great_form(2), [{"y": Fraction(2), "z": Fraction(-1)}], FINE)

    def test_another_name(self):
        told = Border(form("x"), 0, NOUGHT, form("2")).into("less", form("orange*x - 2"), "orange")
        wanted = [y * y < 4 for y in SOME_Y]
        self.assertEqual([true_there(told, {"x": fraction_told(y)}) for y in SOME_Y], wanted)

    def test_a_root_that_is_not_looked_at(self):
        for kind in (Border, Past):
            for R in (form("-1"), form("x^5"), form("orange"), None):
                point = kind(form("y"), 0, R, form("y - 1"))
                for F in self.FORMS_IN_Y:
                    for word in WORDS_THAT_COMPARE:
                        told = point.into(word, F, "x")
                        self.assert_plain(told, ("y",))
                        self.assertEqual(told, kind(form("y"), 0, NOUGHT, form("y - 1")).into(word, F, "x"))


class Upright(Putting):
    """The package's own points P / S where S is above 0, and past them."""

    def test_guard_and_compares(self):
        numbers = [form(text) for text in ("2", "-3", "y", "y - 1", "-y^2 + 4", "z")] + [NOUGHT]
        for P, S in itertools.product(numbers[1:4], numbers):
            for own, kind in ((points.Upright, Border), (points.PastUpright, Past)):
                point = own(P, S)
                guard = point.guard()
                self.assert_plain(guard, names_of(S))
                for F in AtABorder.FORMS_IN_Y + AtABorder.FORMS[3:9] + [form("y*x - z"), form("y"), NOUGHT]:
                    put = {word: point.into(word, F, "x") for word in WORDS_THAT_COMPARE}
                    for told in put.values():
                        self.assert_plain(told, set(names_of(P + S + F)) - {"x"})
                    self.assert_told_there(put, guard, kind, (P, 0, NOUGHT, S), F)

    def assert_told_there(self, put, guard, kind, four, F):
        for at in AT_YZ[::6]:
            numbers = {name: fraction_told(number) for name, number in at.items()}
            self.assertIs(holds(guard, numbers), value(four[3], at) > 0)
            if value(four[3], at) > 0:
                sign = sign_there(F, dict(numbers, x=self.place(kind, four, at)))
                for word in WORDS_THAT_COMPARE:
                    self.assertIs(holds(put[word], numbers), said(word, sign), (kind, four, word, F, at))

    def test_the_third_power_is_refused(self):
        F = form("x^3 - y")
        for own in (points.Upright, points.PastUpright):
            self.assert_refused(errors.Beyond, {"name": "x", "form": F}, own(form("y"), form("2")).into, "less", F, "x")


class WhereOthersHaveRoots(Putting):
    # y is root 2 in some way, and the root of R is a whole number times root 2, or a whole number.
    def test_at_a_border_and_past_it(self):
        for y, root in (((0, 1, 2, 1), (0, 1)), ((0, -1, 2, 1), (0, 1)), ((0, 3, 2, 1), (0, 3))):
            numbers = {"y": y}
            for q, P, S in itertools.product((1, 0, -1), (0, 1, -3), (1, -2)):
                # P + q root (y^2), divided by S.
                bottom = abs(S)
                sign = 1 if S > 0 else -1
                place = (P * sign, q * root[1] * sign, 2, bottom)
                above = (place[0] * 10 ** 40 + bottom, place[1] * 10 ** 40, 2, bottom * 10 ** 40)
                four = (form_of([((), P)]), q, form("y^2"), (((), S),))
                for F in AtABorder.FORMS_IN_Y + AtABorder.FORMS:
                    for word in WORDS_THAT_COMPARE:
                        self.assertIs(true_there(Border(*four).into(word, F, "x"), numbers),
                                      true_there((word, F), dict(numbers, x=place)), (four, F))
                        self.assertIs(true_there(Past(*four).into(word, F, "x"), numbers),
                                      true_there((word, F), dict(numbers, x=above)), (four, F))

    def test_far_below(self):
        for y in ((0, 1, 2, 1), (2, -1, 2, 1), (1, -1, 2, 1)):
            for F in AtABorder.FORMS_IN_Y:
                for word in WORDS_THAT_COMPARE:
                    told = Far().into(word, F, "x")
                    there = {"y": y, "x": (-10 ** 40, 0, 0, 1)}
                    self.assertIs(true_there(told, {"y": y}), true_there((word, F), there))


class Refused(Putting):
    KINDS = ((Far, ()), (Border, (form("y"), 1, form("y"), form("2"))), (Border, (form("y"), 0, NOUGHT, form("2"))),
             (Past, (form("y"), -1, form("y"), form("y"))), (Past, (form("y"), 0, None, form("y"))),
             (Border, (NOUGHT, 1, form("-1"), NOUGHT)))

    def test_the_third_power_and_higher(self):
        for kind, four in self.KINDS:
            for power in range(3, 10):
                F = form_of([((("x", power),), 2), (Y, 4)])
                for word in WORDS_THAT_COMPARE:
                    self.assert_refused(errors.Beyond, {"name": "x", "form": F}, kind(*four).into, word, F, "x")

    def test_beside_another_name(self):
        for kind, four in self.KINDS:
            F = form_of([((("x", 3), ("y", 1)), -6), (XX, 4), ((), 2)])
            self.assert_refused(errors.Beyond, {"name": "x", "form": F}, kind(*four).into, "less", F, "x")
            self.assert_plain(kind(*four).into("less", F, "y"), ("x", "y"))

    def test_high_powers_of_others_are_let_in(self):
        for kind, four in self.KINDS:
            self.assert_plain(kind(*four).into("less", form("x^2 + y^9*x"), "x"), ("y",))


class HandedIn(Putting):
    def test_it_is_as_it_was(self):
        four = [form("y"), 1, form("y"), form("y - 1")]
        before = copy.deepcopy(four)
        F = form("x^2 - y")
        for point in (Far(), Border(*four), Past(*four)):
            guard = point.guard()
            told = [point.into(word, F, "x") for word in WORDS_THAT_COMPARE]
            self.assertEqual(point.guard(), guard)
            self.assertEqual([point.into(word, F, "x") for word in WORDS_THAT_COMPARE], told)
        self.assertEqual(four, before)

    def test_each_object_has_its_own(self):
        one = Border(form("y"), 0, NOUGHT, form("1"))
        other = Border(form("1"), 0, NOUGHT, form("y"))
        self.assertEqual(one.guard(), YES)
        self.assertEqual(other.guard(), read("y /= 0"))
        self.assertEqual(one.into("less", form("x"), "x"), read("y < 0"))

    def test_what_is_told_is_handed_in_again(self):
        # What x^2 + y x + z < 0 is at a border in x is put to borders in y, and then in z.
        told = Border(form("1"), 1, form("z"), form("2")).into("less", form("x^2 + y*x + z"), "x")
        for part in compares_of(told):
            for F in (part[1], scaled(part[1], -4)):
                for q in (1, 0, -1):
                    four = (form("z"), q, form("z + 1"), form("-3"))
                    again = Past(*four).into(part[0], F, "y")
                    self.assert_plain(again, ("z",))
                    for z in SOME_Y:
                        if z >= -1:
                            place = self.place(Past, four, {"z": z})
                            wanted = true_there((part[0], F), {"y": place, "z": fraction_told(z)})
                            self.assertIs(true_there(again, {"z": fraction_told(z)}), wanted)


if __name__ == "__main__":
    unittest.main()
