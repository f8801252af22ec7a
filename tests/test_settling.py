"""One unknown settled: point 22, and of point 2 what touches it."""

import inspect
import itertools
import random
import unittest

from helper import GREAT, NO, WORDS_THAT_COMPARE, XX, YES, Timed, X, Y, below, drawn, true_there
from realsay import errors, settling
from realsay.forms import form_of
from realsay.line import line
from realsay.sentences import both, compare, compares_of, either
from realsay.settling import settle
from realsay.texts import read

PLAIN_WORDS = ("both", "either", "leaf")


def some_compare(chance):
    """Any compare in x of at most the second power, or what it becomes."""
    numbers = [chance.choice((0, 1, -1, chance.randint(-6, 6))) for k in range(3)]
    return compare(chance.choice(WORDS_THAT_COMPARE), form_of(list(zip(((), X, XX), numbers))))


class Settling(Timed):
    def assert_settled(self, sentence, first=None, name="x"):
        """What is told is as point 22 says; its first word too, where it is known."""
        told = settle(sentence, name)
        self.assertIs(type(told), tuple)
        self.assertEqual(len(told), 2)
        if first is not None:
            self.assertEqual(told[0], first, sentence)
        if told[0] == "yes":
            self.assert_number(told[1])
            self.assertTrue(true_there(sentence, {name: told[1]}))
        else:
            self.assertEqual(told, ("no", line([part[1] for part in compares_of(sentence)], name)))
            for number in told[1]:
                self.assertFalse(true_there(sentence, {name: number}))
        return told[0]

    def assert_yes(self, *texts):
        for text in texts:
            self.assert_settled(read(text), "yes")

    def assert_no(self, *texts):
        for text in texts:
            self.assert_settled(read(text), "no")


class Interface(unittest.TestCase):
    def test_names_and_arguments(self):
        self.assertEqual(list(inspect.signature(settling.settle).parameters), ["S", "name"])


class WhereItHolds(Settling):
    def test_yes_and_no_themselves(self):
        self.assert_settled(YES, "yes")
        self.assert_settled(NO, "no")
        self.assertEqual(len(settle(NO, "x")[1]), 1)

    def test_each_word(self):
        self.assert_yes("x < 0", "x <= 0", "x = 0", "x /= 0")
        self.assert_yes("x^2 <= 0", "x^2 = 0", "x^2 /= 0", "x^2 = 2", "x^2 < 1", "-1*x^2 < 0")
        self.assert_no("x^2 < 0", "x^2 <= -1", "x^2 = -2", "x^2 < 2*x - 1")

    def test_at_a_border_alone(self):
        self.assert_yes("x^2 = 2", "x = 3/7", "x^2 <= 0", "x <= 1 and x >= 1", "x^2 <= 2 and x >= 1 and x^2 >= 2")
        self.assert_yes("x^2 = 2 and x < 0", "x^2 = 2 and x > 0", "x^2 - x = 1 and x < 0", "x^2 - 2*x <= -1")
        self.assert_no("x < 1 and x >= 1", "x^2 = 2 and x^2 = 3", "x^2 = 4 and x /= 2 and x /= -2", "x = 1 and x = 2")

    def test_between_two_borders_alone(self):
        self.assert_yes("x > 0 and x < 1", "x^2 < 2 and x > 7/5", "x^2 > 2 and x^2 < 3 and x < 0", "x^2 < 1/1000")
        self.assert_yes(f"x > 1/{GREAT} and x < 1/{GREAT - 1}")
        self.assert_no("x > 1 and x < 1", "x^2 < 2 and x > 3/2", "x^2 > 3 and x^2 < 2")

    def test_below_all_and_above_all(self):
        self.assert_yes("x < -10 and x^2 > 200", "x > 10 and x^2 > 200", f"x > {GREAT}", f"x < -{GREAT}")
        self.assert_yes("x < -1 and x /= -2 and x < -3", "x^2 - x > 5 and x > 0 and x > 8")
        self.assert_no("x < -10 and x^2 < 50", "x > 10 and x^2 < 50", "x < 0 and x > 3")

    def test_everywhere(self):
        self.assert_yes("x^2 >= 0", "x < 0 or x >= 0", "x^2 + 1 /= 0", "x^2 - 2*x + 1 >= 0 or x = 5")

    def test_nowhere(self):
        self.assert_no("x^2 + 1 = 0", "x^2 < 0 or x^2 + x + 1 <= 0", "x < 0 and x > 0 or x = 0 and x /= 0")
        self.assert_no("x^2 < 2 and x^2 > 2 or x = 1 and x^2 = 2")

    def test_parts_within_parts(self):
        self.assert_yes("(x < 0 or x > 2) and (x^2 = 4 or x^2 = 9)", "x < 0 and (x > 1 or x > -1 and (x = 0 or x < 0))")
        self.assert_no("(x < 0 or x > 2) and (x = 1 or x^2 < 0)", "x < 0 and (x > 1 or x > -1 and (x = 0 or x > 0))")

    def test_another_name(self):
        self.assert_settled(read("orange^2 = 2"), "yes", "orange")
        self.assert_settled(read("orange^2 < 0"), "no", "orange")

    def test_where_two_forms_come_near(self):
        # 7 + 5 root 2 is told by its form, and held against fractions of fifteen figures.
        self.assert_yes("x^2 - 14*x - 1 = 0 and x > 14071067811865/1000000000000 and x < 14071067811866/1000000000000")
        self.assert_no("x^2 - 14*x - 1 = 0 and x > 14071067811866/1000000000000")

    def test_thirty_figures(self):
        self.assert_yes(f"{GREAT}*x^2 = {GREAT - 1}", f"{GREAT}*x^2 + {GREAT - 7}*x < {GREAT - 1} and x < -1")
        self.assert_no(f"{GREAT}*x^2 < {GREAT - 1} and x >= 1", f"{GREAT}*x^2 + x + {GREAT} <= 0")

    def test_forty_compares(self):
        apart = [("unlike", (((), -k), (X, 1))) for k in range(20)]
        near = [("most", (((), -k * k), (XX, 1))) for k in range(1, 21)]
        self.assert_settled(both(apart + near), "yes")
        exact = [("equal", (((), -k), (X, 1))) for k in range(20)]
        self.assert_settled(both([either(exact)] + apart), "no")
        self.assert_settled(both([either(exact)] + apart[:19]), "yes")


class Held(Settling):
    # All borders of forms in x with numbers 0, 1, -1 are among these, and between each two of them stands one more.
    NUMBERS = (
        (-2, 0, 0, 1), (-1, -1, 5, 2), (-3, 0, 0, 2), (-1, 0, 0, 1), (-3, 0, 0, 4), (1, -1, 5, 2), (-1, 0, 0, 2),
        (0, 0, 0, 1), (1, 0, 0, 2), (-1, 1, 5, 2), (3, 0, 0, 4), (1, 0, 0, 1), (3, 0, 0, 2), (1, 1, 5, 2), (2, 0, 0, 1),
    )

    def test_two_compares_of_small_forms(self):
        forms = [form_of(list(zip(((), X, XX), numbers))) for numbers in itertools.product((-1, 0, 1), repeat=3)]
        compares = [(word, form) for word in WORDS_THAT_COMPARE for form in forms[::2]]
        compares = sorted(set([compare(*part) for part in compares]))
        for one, other in itertools.combinations(compares, 2):
            sentence = both([one, other])
            wanted = any([true_there(sentence, {"x": number}) for number in self.NUMBERS])
            self.assert_settled(sentence, "yes" if wanted else "no")

    def test_drawn_sentences(self):
        chance = random.Random(22)
        told = []
        for k in range(400):
            told.append(self.assert_settled(drawn(chance, chance.randint(0, 4), PLAIN_WORDS, some_compare)))
        # Both answers come often enough to say something.
        self.assertGreater(told.count("no"), 40)
        self.assertGreater(told.count("yes"), 40)

    def test_no_number_of_a_fine_row_is_overlooked(self):
        chance = random.Random(23)
        for k in range(150):
            sentence = drawn(chance, 3, PLAIN_WORDS, some_compare)
            if settle(sentence, "x")[0] == "no":
                for top in range(-60, 61):
                    self.assertFalse(true_there(sentence, {"x": (top, 0, 0, 7)}))


class Refused(Settling):
    HIGH = form_of([((), 2), ((("x", 3),), 1)])
    HIGHER = form_of([(X, 3), ((("x", 8),), -2)])

    def assert_beyond(self, sentence, form):
        self.assert_refused(errors.Beyond, {"name": "x", "form": form}, settle, sentence, "x")

    def assert_stranger(self, sentence, other):
        self.assert_refused(errors.Stranger, {"name": other}, settle, sentence, "x")

    def test_beyond(self):
        for word in WORDS_THAT_COMPARE:
            self.assert_beyond((word, self.HIGH), self.HIGH)
        one, other = ("less", self.HIGH), ("equal", self.HIGHER)
        for join in (both, either):
            self.assert_beyond(join([below("x"), one, other]), self.HIGH)
            self.assert_beyond(join([other, below("x"), one]), self.HIGHER)
            self.assert_beyond(both([either([below("x"), join([below("x", 2), other])]), one]), self.HIGHER)

    def test_stranger(self):
        for word in WORDS_THAT_COMPARE:
            self.assert_stranger((word, ((Y, 1),)), "y")
        for join in (both, either):
            self.assert_stranger(join([below("x"), below("y"), below("a")]), "y")
            self.assert_stranger(join([below("a"), below("x"), below("y")]), "a")
            self.assert_stranger(join([("most", form_of([(X, 1), (Y, 1), ((("b", 2),), 1)])), below("a")]), "b")

    def test_stranger_goes_ahead_of_beyond(self):
        for join in (both, either):
            self.assert_stranger(join([("less", self.HIGH), below("y")]), "y")
            self.assert_stranger(join([below("y"), ("less", self.HIGH)]), "y")

    def test_whatever_the_rest_would_tell(self):
        # Nowhere, or at once, the rest would settle it; yet all of its compares are looked at.
        self.assert_stranger(either([compare("most", ((XX, -1),)), below("y")]), "y")
        self.assert_stranger(both([compare("less", ((XX, 1),)), below("y")]), "y")
        self.assert_beyond(either([compare("most", ((XX, -1),)), ("less", self.HIGH)]), self.HIGH)
        self.assert_beyond(both([compare("less", ((XX, 1),)), ("less", self.HIGH)]), self.HIGH)


class Deep(Settling):
    def test_two_hundred_sentences_within_one_another(self):
        deep = read("x^2 = 2")
        for k in range(199):
            deep = either([below("x", -5), deep]) if k % 2 else both([deep, below("x", 5)])
        self.assert_settled(deep, "yes")
        deep = read("x^2 < 0")
        for k in range(199):
            deep = either([read("x^2 < -1"), deep]) if k % 2 else both([deep, below("x", 5)])
        self.assert_settled(deep, "no")


if __name__ == "__main__":
    unittest.main()
