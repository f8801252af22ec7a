"""One unknown taken out: points 25 and 26, and of point 2 what touches them."""

import inspect
import itertools
import random
import unittest

from helper import (GREAT, NO, WORDS_THAT_COMPARE, XX, XY, YES, Timed, X, Y, below, deepest, drawn, grid, is_true,
                    point_told, true_there)
from realsay import errors, taking
from realsay.forms import form_of
from realsay.points import Border, Far, Past, Point
from realsay.sentences import both, compare, compares_of, either, free_in
from realsay.texts import read
from realsay.taking import points_of, put_to, without

Z = (("z", 1),)
FORMS = (
    "x", "-x", "3*x - 2", "-2*x - 1", "x - y", "-3*x + 2*y - z + 1", "y*x", "y*x - 1", "-y*x + z", "y*z*x + y - 2",
    "y*x - z*x + 1", "y^2*x - x - z", "y^9*x - 3",
    "x^2", "-x^2", "x^2 - 2", "-2*x^2 + 3", "x^2 + 1", "-x^2 - 1", "x^2 - 3*x + 2", "x^2 - y", "-x^2 - y",
    "3*x^2 + y - z",
    "x^2 + y*x", "-x^2 + y*x - z", "x^2 + y*x + z", "-3*x^2 + 2*y*x - z*x + y*z", "x^2 - 2*x*y + y^2",
    "-x^2 + 2*x*y - y^2", "x^2 - 2*x*y + y^2 - z", "2*x^2 - 4*x + y", "5*x^2 + y^3*x - z^2",
)
WITHOUT_X = ("y", "y^2 - 4", "y - z", "y^9*z - 1")
SIGNS = {"less": "<", "most": "<=", "equal": "=", "unlike": "/="}


def rebuilt(S, point, name):
    """The sentence with each compare put to the point, built anew, straight by point 26."""
    if S[0] == "both":
        return both([rebuilt(part, point, name) for part in S[1]])
    if S[0] == "either":
        return either([rebuilt(part, point, name) for part in S[1]])
    return point.into(S[0], S[1], name) if S[0] in WORDS_THAT_COMPARE else S


class Taking(Timed):
    def assert_taken(self, S, name="x", count=40):
        """Points and the sentence without the name are as point 26 tells, at points of the other names."""
        if isinstance(S, str):
            S = read(S)
        others = [other for other in free_in(S) if other != name]
        points = points_of(S, name)
        self.assertIs(type(points), list)
        rows = []
        for point in points:
            self.assertIsInstance(point, Point)
            guard, put = point.guard(), put_to(S, point, name)
            self.assert_plain(guard, others)
            self.assert_plain(put, others)
            self.assertEqual(put, rebuilt(S, point, name))
            rows.append((guard, put))
        told = without(S, name)
        self.assert_plain(told, others)
        self.assertLessEqual(deepest(told), 200)
        answers = []
        for at in grid(others, count):
            wanted = is_true(("some", name, S), at)
            numbers = point_told(at)
            found = [put for guard, put in rows if true_there(guard, numbers) and true_there(put, numbers)]
            self.assertIs(found != [], wanted, (S, at))
            self.assertIs(true_there(told, numbers), wanted, (S, at))
            answers.append(wanted)
        return answers

    def assert_says(self, text, wanted, names="y", name="x"):
        """The text's sentence without the name holds at just the points at which the wanted one does."""
        told = without(read(text), name)
        self.assert_plain(told, names)
        for at in grid(names, 60):
            self.assertIs(true_there(told, point_told(at)), true_there(read(wanted), point_told(at)), (text, at))


class Interface(unittest.TestCase):
    def test_arguments(self):
        for asked, names in ((taking.points_of, ["S", "name"]), (taking.put_to, ["S", "point", "name"]),
                             (taking.without, ["S", "name"])):
            self.assertEqual(list(inspect.signature(asked).parameters), names)


class OneCompare(Taking):
    def test_each_word_and_form(self):
        for text in FORMS + WITHOUT_X:
            for sign in SIGNS.values():
                self.assert_taken(f"{text} {sign} 0")

    def test_some_answers_are_yes_and_some_no(self):
        for text in ("x^2 + y*x + z < 0", "x^2 + y*x + z <= 0", "x^2 + y*x + z = 0", "y*x = 1", "y*x + z < 0"):
            self.assertEqual(set(self.assert_taken(text)), {True, False})

    def test_yes_and_no(self):
        for S in (YES, NO):
            self.assertEqual(without(S, "x"), S)
            self.assertEqual(self.assert_taken(S), [S == YES])

    def test_the_first_power(self):
        for sign in SIGNS.values():
            self.assert_says(f"x {sign} y", "yes")
            self.assert_says(f"-7*x {sign} y", "yes")
        self.assert_says("y*x = 0", "yes")
        self.assert_says("y*x = 1", "y /= 0")
        self.assert_says("y*x < 0", "y /= 0")
        self.assert_says("y*x <= 0", "yes")
        self.assert_says("y*x /= 0", "y /= 0")
        self.assert_says("y*x + z < 0", "y /= 0 or z < 0", "yz")
        self.assert_says("y*x + z = 0", "y /= 0 or z = 0", "yz")
        self.assert_says("y*x - z*x = 1", "y /= z", "yz")

    def test_the_second_power(self):
        for a in (1, 3, -1, -2):
            inner = f"y^2 - {4 * a}*z" if a > 0 else f"y^2 + {-4 * a}*z"
            self.assert_says(f"{a}*x^2 + y*x + z = 0", f"{inner} >= 0", "yz")
            self.assert_says(f"{a}*x^2 + y*x + z < 0", f"{inner} > 0" if a > 0 else "yes", "yz")
            self.assert_says(f"{a}*x^2 + y*x + z <= 0", f"{inner} >= 0" if a > 0 else "yes", "yz")
            self.assert_says(f"{a}*x^2 + y*x + z /= 0", "yes", "yz")

    def test_forms_that_touch_nought(self):
        self.assert_says("x^2 <= 0", "yes", "")
        self.assert_says("x^2 < 0", "no", "")
        self.assert_says("x^2 - 2*x*y + y^2 <= 0", "yes")
        self.assert_says("x^2 - 2*x*y + y^2 < 0", "no")
        self.assert_says("x^2 - 2*x*y + y^2 + z <= 0", "z <= 0", "yz")
        self.assert_says("x^2 - 2*x*y + y^2 + z < 0", "z < 0", "yz")
        self.assert_says("x^2 - 2*x*y + y^2 = z", "z >= 0", "yz")
        self.assert_says("x^2 - 2*x*y + y^2 <= 0 and x < z", "y < z", "yz")
        self.assert_says("x^2 - 2*x*y + y^2 <= 0 and x^2 < z", "y^2 < z", "yz")

    def test_where_the_inner_root_is_below_nought_nought_and_above(self):
        # The inner root of x^2 + y x + 1 is y^2 - 4.
        for y in (-3, -2, -1, 0, 1, 2, 3):
            at = point_told({"y": y})
            less, most = y * y > 4, y * y >= 4
            self.assertIs(true_there(without(read("x^2 + y*x + 1 < 0"), "x"), at), less)
            self.assertIs(true_there(without(read("x^2 + y*x + 1 <= 0"), "x"), at), most)
            self.assertIs(true_there(without(read("x^2 + y*x + 1 = 0"), "x"), at), most)
            self.assertIs(true_there(without(read("-1 - y*x - x^2 > 0"), "x"), at), less)

    def test_without_the_name(self):
        for text in WITHOUT_X:
            for sign in SIGNS.values():
                self.assert_says(f"{text} {sign} 0", f"{text} {sign} 0", "yz")

    def test_another_name(self):
        for text in ("orange < x", "orange^2 = y", "y*orange = 1", "orange^2 - 2*orange*y + y^2 <= 0"):
            self.assert_taken(text, "orange")
        self.assert_taken("x^2 + y*x + z < 0", "z")
        self.assert_taken("x^2 + y*x + z < 0", "y")


class Joined(Taking):
    def test_pairs(self):
        firsts = ("x > 1", "x >= y", "y*x < 1", "x^2 < y", "x^2 + y*x + z = 0", "-x^2 + y*x <= z", "x /= y")
        seconds = ("x < 2*y", "x <= 1", "z*x = 1", "x^2 >= 4", "-2*x^2 + x /= z", "y < z", "x^2 = 2")
        for one, other in itertools.product(firsts, seconds):
            self.assert_taken(f"{one} and {other}", count=16)
            self.assert_taken(f"{one} or {other}", count=16)

    def test_within_one_another(self):
        for text in (
                "x > y and (x < 1 or x > z)", "(x < y or x > z) and (x > 0 or x^2 = z)",
                "x^2 = y and x > 0 or x^2 = z and x < 0", "x = y or y > 3 and (y*x = z or x < z and x > y)",
                "(x^2 < y or y < z) and (x >= z or x = -1) and (x /= 0 or z = 1)",
                "(x > y and x < z or x = 3) and (x < y and x > z or y*x >= 9)",
                "x^2 + y*x + z <= 0 and (x <= 1 and x >= -1 or x^2 = 4)",
                "x /= 0 and x /= 1 and x >= 0 and x <= y", "x >= y and x <= y and x /= z",
                "x^2 <= y and x^2 >= y and x > z", "-x^2 > y or y*x > 1 and -y*x > z"):
            self.assert_taken(text)

    def test_what_is_told_of_some(self):
        self.assert_says("x > y and x < z", "y < z", "yz")
        self.assert_says("x >= y and x <= z", "y <= z", "yz")
        self.assert_says("x >= y and x < z", "y < z", "yz")
        self.assert_says("x = y and x = z", "y = z", "yz")
        self.assert_says("x = y and x /= z", "y /= z", "yz")
        self.assert_says("x >= y and x <= y and x /= z", "y /= z", "yz")
        self.assert_says("x > y and x < y + 1 and x /= z", "yes", "yz")
        self.assert_says("x^2 = y and x > 0", "y > 0")
        self.assert_says("x^2 = 2 and x > y", "y < 0 or y^2 < 2")
        self.assert_says("x^2 = 2 and x >= y and x < 0", "y < 0 and y^2 >= 2")
        self.assert_says("x^2 < 2 and x > y", "y < 0 or y^2 < 2")
        self.assert_says("x^2 > 2 and x < 0 and x > y", "y < 0 and y^2 > 2")
        self.assert_says("y*x > 1 and x > 0", "y > 0")
        self.assert_says("y*x = 1 and z*x = 1", "y = z and y /= 0", "yz")
        self.assert_says("x^2 = y and x = z", "z^2 = y", "yz")
        self.assert_says("x^2 = y and x^2 + x = z", "y >= 0 and z^2 - 2*y*z + y^2 = y", "yz")

    def test_parts_without_the_name(self):
        self.assert_says("y < 1 and x < 0", "y < 1")
        self.assert_says("y < 1 or x < 0", "yes")
        self.assert_says("y < 1 and (x^2 < 0 or y = 0)", "y = 0")
        self.assert_says("y < 1 or x^2 < 0", "y < 1")

    def test_three_and_four_others(self):
        self.assert_taken("x > a and x < b and x /= c", count=100)
        self.assert_taken("a*x + b > 0 and c*x + d < 0", count=250)
        self.assert_taken("x^2 + a*x + b < 0 and x >= c", count=100)
        self.assert_taken("x^2 + a*x + b = 0 and x^2 + c*x = 1", count=100)

    def test_where_it_can_hold_at_borders_alone(self):
        for text in ("(x = y or x = z) and (x < 1 or x^2 = 4)", "(x = 1 or x^2 = y) and x > z",
                     "(x = y or x^2 = z and x > 0) and x /= 1", "(x = y or z = 1) and x < z", "x = y and x^2 = z",
                     "(x = y or x = -y) and (x = z or x = 1 or x^2 = 2)", "(x = y or z*x = 1) and x < 3",
                     "(x = y and x < z or x = z and x < y) and x > 0", "x^2 + y*x = z and (x = 1 or x < y)",
                     "z*x = 1 and x = y", "(x^2 = y or x^2 + x = y) and (x > z or x = 0)"):
            self.assert_taken(text, count=60)

    def test_more_bounds_on_one_side(self):
        for text in ("x > y and x > z and x > 1 and x < w", "x < y and x < z and x < 1 and x > w",
                     "x >= y and x > z and x >= 1 and x <= w", "x <= y and x <= z and x < 1 and x >= w",
                     "x > y and x > z and x /= 1 and x^2 < w", "(x > y or x >= z) and x > 1 and x < w",
                     "y*x > 1 and z*x > 1 and x > -2 and x <= w", "x > y and x > z and x > 1",
                     "x < y and x < z and x < 1"):
            self.assert_taken(text, count=60)

    def test_drawn(self):
        chance = random.Random(26)
        straight = [((), 4), (X, 3), (Y, 3), (Z, 2), (XY, 2), ((("x", 1), ("z", 1)), 1), ((("y", 2),), 2)]
        bent = straight + [(XX, 2), (XX, 2)]

        def leaf(chance):
            products = chance.sample(chance.choice((straight, bent)), chance.randint(1, 4))
            word = chance.choice(WORDS_THAT_COMPARE)
            return compare(word, form_of([(product, chance.randint(-most, most)) for product, most in products]))

        kinds = set()
        for k in range(250):
            S = drawn(chance, chance.randint(1, 3), ("both", "either", "leaf"), leaf)
            kinds.update(self.assert_taken(S, count=9))
        self.assertEqual(kinds, {True, False})

    def test_thirty_figures(self):
        told = without(read(f"x^2 = {GREAT}*y and x > {GREAT - 1}"), "x")
        for y, wanted in ((GREAT, True), (GREAT - 1, True), (GREAT - 2, False), (0, False), (-GREAT, False)):
            self.assertIs(true_there(told, point_told({"y": y})), wanted)
        told = without(read(f"{GREAT}*x > y and {GREAT - 1}*x < y + 1"), "x")
        # Between y / GREAT and (y + 1) / (GREAT - 1) lies some number where y is above -GREAT.
        for y, wanted in ((-GREAT, False), (1 - GREAT, True), (-GREAT - 1, False), (0, True), (GREAT, True)):
            self.assertIs(true_there(told, point_told({"y": y})), wanted)

    def test_forms_of_twelve_products(self):
        chance = random.Random(12)
        rest = [(("a", power), ("b", other)) for power in range(1, 10, 2) for other in range(1, 4)][:10]
        big = form_of([(product, chance.randint(-9, 9) or 1) for product in rest] + [(X, 1), ((), 5)])
        other = form_of([(tuple(sorted(product + X)), 1) for product in rest] + [(XX, 1), ((), -2)])
        self.assertEqual((len(big), len(other)), (12, 12))
        self.assert_taken(both([compare("less", big), compare("most", other)]), count=4)

    def test_forty_compares(self):
        parts = [read(f"x > {k}*y - {k * k % 7}") for k in range(20)] + [read(f"x < {k}*y + 40") for k in range(20)]
        self.assertEqual(len(compares_of(both(parts))), 40)
        self.assert_taken(both(parts), count=5)


class PutTo(Taking):
    SENTENCES = [read(text) for text in (
        "x > y and (x < 1 or x > z)", "x^2 = y or y > 1", "z*x^2 + y < 0 and y*x^2 = 1 or x = 0", "y < z",
        "(x < 1 or y*x^2 + x > 3) and x /= 2")] + [YES, NO]
    POINTS = [Far(), Border(((Y, 1),), 1, ((Z, 2), ((), 1)), (((), 3),)), Past(((Y, 1),), -1, ((Z, 1),), ((Y, 1),)),
              Border(form_of([((("orange", 1),), 1)]), 0, (), (((), -2),)),
              Past((), 0, (), form_of([((), 1), (Z, -1)])),
              Border((), 1, form_of([((("orange", 2),), 1)]), ((Y, 2),))]

    def test_built_anew(self):
        for S, point in itertools.product(self.SENTENCES, self.POINTS):
            told = put_to(S, point, "x")
            self.assertEqual(told, rebuilt(S, point, "x"))
            self.assert_plain(told, ("orange", "y", "z"))

    def test_equal_parts_and_parts_that_rule(self):
        S = read("x < y and x + x < 2*y + z and (x > 0 or z = 0)")
        # At x = 0, and with z 0 left out: y and 2 y + z stay; x > 0 is no there.
        told = put_to(S, Border((), 0, (), (((), 1),)), "x")
        self.assertEqual(told, both([read("0 < y"), read("0 < 2*y + z"), read("z = 0")]))
        self.assertEqual(put_to(read("x < 1 or y > 0"), Far(), "x"), YES)
        self.assertEqual(put_to(read("x > 1 and y > 0"), Far(), "x"), NO)
        self.assertEqual(put_to(read("x < y or 2*x < y + z"), Border(((Z, 1),), 0, (), (((), 1),)), "x"),
                         read("z < y"))

    def test_third_powers_are_refused(self):
        high, higher = form_of([((("x", 3),), 1), (Y, -1)]), form_of([((("x", 9),), 1)])
        for point in self.POINTS:
            for join in (both, either):
                for parts, form in (([below("x"), ("less", high), ("equal", higher)], high),
                                    ([("equal", higher), below("x"), ("less", high)], higher),
                                    ([below("y"), either([below("z"), both([below("x"), ("most", higher)])]),
                                      ("less", high)], higher)):
                    self.assert_refused(errors.Beyond, {"name": "x", "form": form}, put_to, join(parts), point, "x")
            self.assert_refused(errors.Beyond, {"name": "x", "form": high}, put_to, ("less", high), point, "x")

    def test_whatever_the_rest_would_tell(self):
        high = form_of([((("x", 3),), 1)])
        self.assert_refused(errors.Beyond, {"name": "x", "form": high}, put_to,
                            either([below("x"), ("less", high)]), Far(), "x")
        self.assert_refused(errors.Beyond, {"name": "x", "form": high}, put_to,
                            both([read("x > 0"), ("less", high)]), Far(), "x")

    def test_what_does_not_let_the_name_in_is_put(self):
        S = read("y*x^2 < 1 and x > z")
        for point in self.POINTS:
            self.assert_plain(put_to(S, point, "x"), ("orange", "y", "z"))
        self.assertEqual(put_to(S, Border((), 0, (), (((), 1),)), "x"), read("0 > z"))


class Refused(Taking):
    HIGH = [form_of([((("x", power),), 2), (Y, 3)]) for power in range(3, 10)]
    BESIDE = [read(text + " < 0")[1] for text in ("y*x^2", "x^2 + y*x^2 - 1", "x^2*y^3*z + x", "3*x^2 + z^2*x^2 - y")]

    def assert_beyond(self, S, form):
        self.assert_plain(S, ("x", "y", "z"))
        for asked in (points_of, without):
            self.assert_refused(errors.Beyond, {"name": "x", "form": form}, asked, S, "x")

    def test_alone(self):
        for form in self.HIGH + self.BESIDE:
            for word in WORDS_THAT_COMPARE:
                self.assert_beyond((word, form), form)

    def test_the_first_one(self):
        for one, other in itertools.permutations((self.HIGH[0], self.BESIDE[0], self.HIGH[6], self.BESIDE[2]), 2):
            for join in (both, either):
                self.assert_beyond(join([("less", one), ("most", other)]), one)
                self.assert_beyond(join([below("x"), ("less", one), below("y"), ("equal", other)]), one)
                inner = either([below("y"), join([below("x"), ("unlike", one)])])
                self.assert_beyond(both([inner, ("less", other)]), one)

    def test_ahead_of_and_behind_what_lets_it_in(self):
        for form in (self.HIGH[0], self.BESIDE[0]):
            for join in (both, either):
                self.assert_beyond(join([below("x"), ("less", form)]), form)
                self.assert_beyond(join([("less", form), below("x")]), form)

    def test_whatever_the_rest_would_tell(self):
        for form in (self.HIGH[0], self.BESIDE[0]):
            for rest in ("x < 1", "x^2 >= 0", "x^2 < 0", "x = 1", "x^2 = -1", "y = 1"):
                self.assert_beyond(both([read(rest), ("less", form)]), form)
                self.assert_beyond(either([read(rest), ("less", form)]), form)

    def test_high_powers_of_others_are_let_in(self):
        for text in ("y^3 + x < 0", "y^9*z^9*x = 1", "x^2 + y^3*x + z^4 <= 0"):
            for asked in (points_of, without):
                asked(read(text), "x")
        for form in self.HIGH:
            self.assertEqual(without(("less", form), "y"), YES)

    def test_for_another_name_it_is_let_in(self):
        self.assert_taken(("less", self.BESIDE[0]), "y")
        self.assert_refused(errors.Beyond, {"name": "y",
        "form": self.BESIDE[2]}, without, ("less", self.BESIDE[2]), "y")
        self.assert_taken(("less", self.BESIDE[2]), "z")


class HandedIn(Taking):
    def test_what_is_told_is_handed_in_again(self):
        S = read("x + y < z and y*x > 1 and x > 2*z - 3")
        once = without(S, "x")
        self.assert_taken(once, "z", count=12)
        S = read("x > y and x < z and y > 1 and z^2 < 4")
        for names in itertools.permutations("xyz"):
            told = S
            for name in names:
                self.assert_taken(told, name, count=12)
                told = without(told, name)
            self.assertEqual(told, YES)

    def test_it_is_told_again(self):
        S = read("x^2 + y*x + z < 0 and x > y")
        self.assertEqual(without(S, "x"), without(S, "x"))
        self.assertEqual(len(points_of(S, "x")), len(points_of(S, "x")))

    def test_two_hundred_sentences_within_one_another(self):
        deep = read("x = y")
        for k in range(199):
            deep = either([read(f"x > y + {k + 1}"), deep]) if k % 2 else both([deep, read(f"x < y + {k + 2}")])
        self.assertEqual(deepest(deep), 200)
        for point in points_of(deep, "x"):
            self.assertEqual(put_to(deep, point, "x"), rebuilt(deep, point, "x"))
        self.assertEqual(without(deep, "x"), YES)
        deep = read("x = y and x = z")
        for k in range(198):
            nowhere = both([read("x^2 < 0"), read(f"z < {k}")])
            deep = either([nowhere, deep]) if k % 2 else both([deep, read(f"z > -{k}")])
        told = without(deep, "x")
        for at in grid("yz", 40):
            self.assertIs(true_there(told, point_told(at)), at["y"] == at["z"] > 0, at)


if __name__ == "__main__":
    unittest.main()
