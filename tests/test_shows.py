"""Sentences shown as texts: point 19, and of point 2 what touches it."""

import inspect
import itertools
import random
import unittest

from helper import GREAT, NO, WORDS_THAT_COMPARE, XX, XY, YES, Timed, X, Y, below, drawn
from realsay import shows
from realsay.forms import form_of
from realsay.sentences import all_of, both, compare, either, never, some_of
from realsay.shows import shown
from realsay.texts import read

ALL_WORDS = ("both", "either", "not", "some", "all", "leaf")
A, B, C, D = [below(name) for name in "abcd"]
# A sentence of each word, and how it is shown where it stands alone.
BY_WORD = {
    "less": (A, "a < 0"),
    "most": (("most", ((X, 1),)), "x <= 0"),
    "equal": (("equal", ((X, 1),)), "x = 0"),
    "unlike": (("unlike", ((X, 1),)), "x /= 0"),
    "both": (("both", (A, B)), "a < 0 and b < 0"),
    "either": (("either", (A, B)), "a < 0 or b < 0"),
    "not": (("not", A), "not a < 0"),
    "some": (("some", "x", A), "some x: a < 0"),
    "all": (("all", "x", A), "all x: a < 0"),
}
# Behind each word the words of those parts of it that stand in brackets.
BRACKETS = {
    "either": ("either", "some", "all"),
    "both": ("both", "either", "some", "all"),
    "not": ("both", "either", "some", "all"),
    "some": (),
    "all": (),
}


def great_compare(chance):
    """Any compare within the bounds of point 2, or what it becomes."""
    pairs = []
    for k in range(chance.choice((1, 2, 3, 12))):
        names = sorted(chance.sample(("a", "b", "x", "y", "orange", "abcdefgh"), chance.randint(0, 3)))
        product = tuple([(name, chance.choice((1, 1, 2, 9))) for name in names])
        pairs.append((product, chance.choice((1, -1, 2, -2, 30, GREAT, -GREAT, chance.randint(-GREAT, GREAT)))))
    pairs = dict(pairs).items()
    return compare(chance.choice(WORDS_THAT_COMPARE), form_of(pairs))


def small_compare(chance):
    return compare(chance.choice(WORDS_THAT_COMPARE), form_of([(X, chance.choice((1, -1))), (Y, 1)]))


def count_of_brackets(sentence):
    """How many parts stand in brackets, by the table above."""
    word = sentence[0]
    if word in WORDS_THAT_COMPARE + ("yes", "no"):
        return 0
    parts = sentence[1] if word in ("both", "either") else sentence[-1:]
    return sum([count_of_brackets(part) + (part[0] in BRACKETS[word]) for part in parts])


class Showing(Timed):
    def assert_shown(self, sentence, wanted):
        told = shown(sentence)
        self.assertIs(type(told), str)
        self.assertEqual(told, wanted)
        self.assertEqual(read(told), sentence)

    def assert_read_again(self, sentence):
        self.assert_sentence(sentence)
        text = shown(sentence)
        self.assertEqual(read(text), sentence, text)
        self.assertEqual(text.count("("), count_of_brackets(sentence), text)
        self.assertEqual(text.count(")"), count_of_brackets(sentence), text)
        self.assertNotIn("  ", text)
        self.assertEqual(text, text.strip())


class Interface(unittest.TestCase):
    def test_names_and_arguments(self):
        self.assertEqual(list(inspect.signature(shows.shown).parameters), ["S"])


class Forms(Showing):
    def assert_form_shown(self, pairs, wanted):
        self.assert_shown(("less", form_of(pairs)), wanted + " < 0")

    def test_the_example(self):
        self.assert_form_shown([(XX, 1), (Y, -2)], "x^2 - 2*y")

    def test_one_pair(self):
        self.assert_form_shown([(X, 1)], "x")
        self.assert_form_shown([(X, -1)], "-x")

    def test_the_first_pair(self):
        self.assert_form_shown([(X, 2), (Y, 3)], "2*x + 3*y")
        self.assert_form_shown([(X, -2), (Y, 3)], "-2*x + 3*y")
        self.assert_form_shown([(X, 1), (Y, 3)], "x + 3*y")
        self.assert_form_shown([(X, -1), (Y, 3)], "-x + 3*y")
        self.assert_form_shown([((), 5), (Y, 3)], "5 + 3*y")
        self.assert_form_shown([((), -5), (Y, 3)], "-5 + 3*y")

    def test_the_other_pairs(self):
        self.assert_form_shown([(X, 3), (Y, 2)], "3*x + 2*y")
        self.assert_form_shown([(X, 3), (Y, -2)], "3*x - 2*y")
        self.assert_form_shown([(X, 3), (Y, 1)], "3*x + y")
        self.assert_form_shown([(X, 3), (Y, -1)], "3*x - y")
        self.assert_form_shown([((), 1), (X, -1), (XX, -7), (Y, 1)], "1 - x - 7*x^2 + y")

    def test_one_with_the_product_of_nothing(self):
        self.assert_form_shown([((), 1), (X, 1)], "1 + x")
        self.assert_form_shown([((), -1), (X, 1)], "-1 + x")
        self.assert_form_shown([((), 1), (X, -1)], "1 - x")
        self.assert_form_shown([((), -1), (X, -1)], "-1 - x")

    def test_powers(self):
        self.assert_form_shown([(X, 1)], "x")
        for power in range(2, 10):
            self.assert_form_shown([((("x", power),), 1)], f"x^{power}")
            self.assert_form_shown([((("x", power),), -3), (Y, 2)], f"-3*x^{power} + 2*y")

    def test_several_names(self):
        self.assert_form_shown([(XY, 1)], "x*y")
        self.assert_form_shown([(XY, -1)], "-x*y")
        self.assert_form_shown([((), 7), (XY, 4)], "7 + 4*x*y")
        self.assert_form_shown([((("a", 9), ("b", 1), ("orange", 2)), -12), (Y, 5)], "-12*a^9*b*orange^2 + 5*y")
        self.assert_form_shown([((("abcdefgh", 2), ("x", 1)), 1), (XX, -1)], "abcdefgh^2*x - x^2")

    def test_the_order_is_that_of_the_form(self):
        self.assert_form_shown([(Y, 1), (XX, 1), ((), 3), (XY, 1), (X, 1)], "3 + x + x*y + x^2 + y")

    def test_great_numbers(self):
        nines = "9" * 30
        self.assert_form_shown([((), GREAT - 1), (X, GREAT)], f"{GREAT - 1} + {nines}*x")
        self.assert_form_shown([((), -GREAT), (X, -10 ** 29)], f"-{nines} - 1{'0' * 29}*x")


class Words(Showing):
    def test_compares(self):
        for word, sign in (("less", "<"), ("most", "<="), ("equal", "="), ("unlike", "/=")):
            self.assert_shown((word, (((), -2), (XX, 1))), f"-2 + x^2 {sign} 0")

    def test_yes_and_no(self):
        self.assert_shown(YES, "yes")
        self.assert_shown(NO, "no")

    def test_each_alone(self):
        for sentence, wanted in BY_WORD.values():
            self.assert_shown(sentence, wanted)

    def test_two_and_three_parts(self):
        self.assert_shown(both([A, B]), "a < 0 and b < 0")
        self.assert_shown(both([A, B, C]), "a < 0 and b < 0 and c < 0")
        self.assert_shown(either([A, B]), "a < 0 or b < 0")
        self.assert_shown(either([A, B, C]), "a < 0 or b < 0 or c < 0")

    def test_not(self):
        self.assert_shown(never(A), "not a < 0")
        self.assert_shown(never(never(A)), "not not a < 0")
        self.assert_shown(never(never(never(A))), "not not not a < 0")

    def test_some_and_all(self):
        self.assert_shown(some_of("x", A), "some x: a < 0")
        self.assert_shown(all_of("abcdefgh", A), "all abcdefgh: a < 0")
        self.assert_shown(some_of("x", all_of("y", A)), "some x: all y: a < 0")


class Brackets(Showing):
    def text_of(self, word, part):
        text = BY_WORD[part][1]
        return f"({text})" if part in BRACKETS[word] else text

    def test_parts_of_both_and_either(self):
        for word, between in (("both", " and "), ("either", " or ")):
            for part in BY_WORD:
                text = self.text_of(word, part)
                inner = BY_WORD[part][0]
                self.assert_shown((word, (inner, D)), text + between + "d < 0")
                self.assert_shown((word, (D, inner)), "d < 0" + between + text)
                self.assert_shown((word, (C, inner, D)), "c < 0" + between + text + between + "d < 0")

    def test_two_parts_of_any_words(self):
        for word, between in (("both", " and "), ("either", " or ")):
            for one, other in itertools.permutations(BY_WORD, 2):
                wanted = self.text_of(word, one) + between + self.text_of(word, other)
                self.assert_shown((word, (BY_WORD[one][0], BY_WORD[other][0])), wanted)

    def test_part_of_not(self):
        for part in BY_WORD:
            self.assert_shown(("not", BY_WORD[part][0]), "not " + self.text_of("not", part))

    def test_part_of_some_and_all(self):
        for word in ("some", "all"):
            for part in BY_WORD:
                self.assert_shown((word, "y", BY_WORD[part][0]), f"{word} y: " + BY_WORD[part][1])

    def test_not_in_parts_keeps_its_own(self):
        self.assert_shown(both([never(both([A, B])), C]), "not (a < 0 and b < 0) and c < 0")
        self.assert_shown(either([A, never(some_of("x", B)), C]), "a < 0 or not (some x: b < 0) or c < 0")
        self.assert_shown(never(never(either([A, B]))), "not not (a < 0 or b < 0)")

    def test_brackets_within_brackets(self):
        inner = some_of("x", either([A, both([B, all_of("y", C)])]))
        self.assert_shown(both([inner, D]), "(some x: a < 0 or b < 0 and (all y: c < 0)) and d < 0")


class ReadAgain(Showing):
    def test_drawn_sentences(self):
        chance = random.Random(19)
        for k in range(400):
            self.assert_read_again(drawn(chance, chance.randint(0, 4), ALL_WORDS, great_compare))

    def test_small_forms_in_many_parts(self):
        chance = random.Random(20)
        for k in range(400):
            self.assert_read_again(drawn(chance, chance.randint(2, 5), ALL_WORDS, small_compare))

    def test_twelve_within_one_another(self):
        chance = random.Random(21)
        for k in range(200):
            deep = A
            for depth in range(11):
                word = chance.choice(ALL_WORDS[:5])
                parts = (deep, below(f"n{'abcdefghijkl'[depth]}"))
                if word in ("both", "either"):
                    deep = (word, parts if chance.random() < 0.5 else parts[::-1])
                else:
                    deep = ("not", deep) if word == "not" else (word, "x", deep)
            self.assert_read_again(deep)

    def test_twelve_of_a_kind(self):
        for word in ALL_WORDS[:5]:
            deep = A
            for name in "bcdefghijkl":
                if word in ("both", "either"):
                    deep = (word, (deep, below(name)))
                else:
                    deep = ("not", deep) if word == "not" else (word, name, deep)
            self.assert_read_again(deep)

    def test_forty_compares(self):
        names = [one + other for one in "abcd" for other in "abcdefghij"]
        for word in ("both", "either"):
            self.assert_read_again((word, tuple([below(name, GREAT) for name in names])))

    def test_thirty_figures_everywhere(self):
        pairs = [(((name, 9),), GREAT - place) for place, name in enumerate("abcdefghijkl")]
        for word in WORDS_THAT_COMPARE:
            self.assert_read_again((word, form_of(pairs)))
            self.assert_read_again((word, form_of([(product, -number) for product, number in pairs])))


if __name__ == "__main__":
    unittest.main()
