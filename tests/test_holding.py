"""Whether a loose sentence holds, and sentences without not: points 13, 14, 15, and of point 2 what touches them."""

import copy
import inspect
import itertools
import random
import unittest

from helper import (GREAT, LOOSE_WORDS, NO, WORDS_THAT_COMPARE, XX, XY, YES, Timed, X, Y, below, drawn,
                    sign_there, true_there, words_in)
from realsay import errors, holding
from realsay.forms import form_of, scaled
from realsay.holding import holds, opposite, plain
from realsay.sentences import both, compare, either, free_in, never

# x < 0, y <= 0, x^2 = 2, x y /= 0.
A = ("less", ((X, 1),))
B = ("most", ((Y, 1),))
C = ("equal", (((), -2), (XX, 1)))
D = ("unlike", ((XY, 1),))
# Numbers of each sign, fractions and such with a root; two of them are 0 in x^2 - 2.
NUMBERS = ((0, 0, 0, 1), (3, 0, 5, 2), (-3, 0, 0, 2), (0, 1, 2, 1), (0, -1, 2, 1), (-1, 1, 2, 3), (1, -1, 2, 1))
POINTS = tuple([{"x": one, "y": other} for one, other in itertools.product(NUMBERS, repeat=2)])


def some_compare(chance):
    """Any compare in names x and y, or what it becomes."""
    pairs = [(chance.choice((X, Y, XX, XY, ())), chance.randint(-3, 3)) for k in range(3)]
    return compare(chance.choice(WORDS_THAT_COMPARE), form_of(pairs))


class Interface(unittest.TestCase):
    def test_names_and_arguments(self):
        wanted = {"holds": ["S", "point"], "plain": ["S"], "opposite": ["S"]}
        for name in wanted:
            told = list(inspect.signature(getattr(holding, name)).parameters)
            self.assertEqual(told, wanted[name], name)


class Holds(Timed):
    def assert_holds(self, sentence, point, wanted):
        self.assertIs(holds(sentence, point), wanted, (sentence, point))

    def test_each_word_at_each_sign(self):
        told = {"less": (True, False, False), "most": (True, True, False),
                "equal": (False, True, False), "unlike": (True, False, True)}
        for word in WORDS_THAT_COMPARE:
            for place, number in enumerate(((-1, 0, 0, 7), (0, 0, 0, 7), (1, 0, 0, 7))):
                self.assert_holds((word, ((X, 1),)), {"x": number}, told[word][place])
            # x^2 - 2 at 7/5, root 2, 3/2.
            for place, number in enumerate(((7, 0, 0, 5), (0, -1, 2, 1), (3, 0, 0, 2))):
                self.assert_holds((word, C[1]), {"x": number}, told[word][place])
                self.assert_holds((word, scaled(C[1], -1)), {"x": number}, told[word][2 - place])

    def test_yes_and_no(self):
        for point in ({}, {"x": (1, 0, 0, 1)}):
            self.assert_holds(YES, point, True)
            self.assert_holds(NO, point, False)

    def test_not(self):
        self.assert_holds(never(A), {"x": (-1, 0, 0, 1)}, False)
        self.assert_holds(never(A), {"x": (0, 0, 0, 1)}, True)
        self.assert_holds(never(never(A)), {"x": (-1, 0, 0, 1)}, True)
        self.assert_holds(never(never(A)), {"x": (0, 0, 0, 1)}, False)

    def test_both_and_either(self):
        names = ("a", "b", "c")
        for count in (2, 3):
            parts = [below(name) for name in names[:count]]
            for signs in itertools.product((-1, 0), repeat=count):
                point = {name: (sign, 0, 0, 1) for name, sign in zip(names, signs)}
                self.assert_holds(both(parts), point, all(signs))
                self.assert_holds(either(parts), point, any(signs))
                self.assert_holds(never(both(parts)), point, not all(signs))
                self.assert_holds(never(either(parts)), point, not any(signs))

    def test_parts_within_parts(self):
        for one, other, third in itertools.product((-1, 0), repeat=3):
            point = {"a": (one, 0, 0, 1), "b": (other, 0, 0, 1), "c": (third, 0, 0, 1)}
            a, b, c = below("a"), below("b"), below("c")
            self.assert_holds(both([either([a, b]), c]), point, bool((one or other) and third))
            self.assert_holds(either([both([a, b]), c]), point, bool(one and other or third))
            self.assert_holds(both([a, never(either([b, c]))]), point, bool(one and not (other or third)))

    def test_at_points_with_roots(self):
        self.assert_holds(C, {"x": (0, 1, 2, 1)}, True)
        self.assert_holds(C, {"x": (0, -1, 2, 1)}, True)
        self.assert_holds(C, {"x": (0, 1, 3, 1)}, False)
        self.assert_holds(both([C, A]), {"x": (0, -1, 2, 1)}, True)
        self.assert_holds(both([C, A]), {"x": (0, 1, 2, 1)}, False)
        # Of numbers with q 0, r is not looked at.
        self.assert_holds(both([C, B]), {"x": (0, 1, 2, 1), "y": (-1, 0, 7, 3)}, True)

    def test_thirty_figures(self):
        part = ("equal", form_of([(X, GREAT), (Y, -GREAT + 1)]))
        self.assert_holds(part, {"x": (GREAT - 1, 0, 0, GREAT), "y": (1, 0, 0, 1)}, True)
        self.assert_holds(part, {"x": (GREAT - 2, 0, 0, GREAT), "y": (1, 0, 0, 1)}, False)

    def test_against_points(self):
        chance = random.Random(14)
        for k in range(150):
            part = drawn(chance, 4, LOOSE_WORDS, some_compare)
            for point in POINTS[::3]:
                self.assert_holds(part, point, true_there(part, point))


class WhatLacks(Timed):
    def test_one_name(self):
        for word in WORDS_THAT_COMPARE:
            self.assert_lacks("x", holds, (word, ((X, 1),)), {})
        caught = self.assert_lacks("x", holds, never(A), {"y": (1, 0, 0, 1)})
        self.assertIsInstance(caught, errors.RealError)

    def test_the_least_of_all_that_lack(self):
        at = {name: (-1, 0, 0, 1) for name in "abcd"}
        for join in (both, either):
            for names in itertools.permutations("abcd"):
                part = join([below(names[0]), never(join([below(names[1]), below(names[2])])), below(names[3])])
                for known in itertools.product((False, True), repeat=4):
                    point = {name: at[name] for name, there in zip("dcba", known) if there}
                    lacking = sorted(set(at) - set(point))
                    if lacking:
                        self.assert_lacks(lacking[0], holds, part, point)
                    else:
                        self.assertIs(holds(part, point), true_there(part, point))

    def test_whatever_the_rest_would_tell(self):
        for number in ((-1, 0, 0, 1), (0, 0, 0, 1), (1, 0, 0, 1)):
            for parts in ([A, B], [B, A]):
                self.assert_lacks("y", holds, both(parts), {"x": number})
                self.assert_lacks("y", holds, either(parts), {"x": number})
                self.assert_lacks("x", holds, either(parts), {"y": number})
                self.assert_lacks("x", holds, both(parts), {"y": number})
            self.assert_lacks("y", holds, D, {"x": number})
            self.assert_lacks("y", holds, either([A, never(A), D]), {"x": number})

    def test_yes_and_no_lack_nothing(self):
        self.assertIs(holds(YES, {}), True)
        self.assertIs(holds(NO, {}), False)


class ThePoint(Timed):
    def test_it_is_as_it_was(self):
        point = {"y": (1, 0, 3, 1), "x": (0, 1, 2, 1)}
        before = copy.deepcopy(list(point.items()))
        holds(either([A, C, never(D)]), point)
        self.assertEqual(list(point.items()), before)
        self.assertRaises(errors.Lacks, holds, both([A, below("b")]), point)
        self.assertEqual(list(point.items()), before)

    def test_other_names_are_not_looked_at(self):
        for number in ((5, 7, 3, 2), None, "x"):
            self.assertIs(holds(both([C, A]), {"a": number, "x": (0, -1, 2, 1), "y": number}), True)

    def test_asked_again_behind_a_change(self):
        point = {"x": (-1, 0, 0, 1)}
        self.assertIs(holds(A, point), True)
        point["x"] = (1, 0, 0, 1)
        self.assertIs(holds(A, point), False)
        del point["x"]
        self.assert_lacks("x", holds, A, point)


class PlainAndOpposite(Timed):
    def assert_both(self, sentence, points=POINTS):
        """Both are plain, in one form, without new names, and hold where they should."""
        same, other = plain(sentence), opposite(sentence)
        for told in (same, other):
            self.assert_sentence(told)
            self.assertLessEqual(set(words_in(told)), {"yes", "no", "both", "either", *WORDS_THAT_COMPARE})
            self.assertLessEqual(set(free_in(told)), set(free_in(sentence)))
        for point in points:
            wanted = true_there(sentence, point)
            self.assertIs(true_there(same, point), wanted, (sentence, point))
            self.assertIs(true_there(other, point), not wanted, (sentence, point))
            self.assertIs(holds(same, point), wanted)
            self.assertIs(holds(other, point), not wanted)

    def test_yes_and_no(self):
        self.assert_both(YES)
        self.assert_both(NO)
        self.assertEqual((plain(YES), plain(NO), opposite(YES), opposite(NO)), (YES, NO, NO, YES))

    def test_points_have_each_sign(self):
        for part in (A, B, C, D):
            signs = set([sign_there(part[1], point) for point in POINTS])
            self.assertEqual(signs, {-1, 0, 1})

    def test_compares(self):
        for word in WORDS_THAT_COMPARE:
            for form in ((((), -2), (XX, 1)), (((), -1), (X, 3), (Y, -2)), ((XY, 1),), ((X, -1),)):
                self.assert_both((word, form))

    def test_not_of_compares(self):
        for word in WORDS_THAT_COMPARE:
            part = (word, (((), -2), (XX, 1)))
            self.assert_both(never(part))
            self.assert_both(never(never(part)))
            self.assert_both(never(never(never(part))))

    def test_both_and_either(self):
        for join in (both, either):
            for parts in ([A, B], [A, B, C, D], [D, never(A)], [never(never(C)), B]):
                self.assert_both(join(parts))

    def test_not_of_both_and_of_either(self):
        for join in (both, either):
            for parts in ([A, B], [A, B, C, D], [D, never(A)], [never(never(C)), B]):
                self.assert_both(never(join(parts)))
                self.assert_both(never(never(join(parts))))
                self.assert_both(both([never(join(parts)), C]))
                self.assert_both(either([C, never(join(parts))]))

    def test_parts_that_become_equal(self):
        # Without not, x < 0 and not (not x < 0) are the same; so are -x <= 0 and not x < 0.
        for join in (both, either):
            self.assert_both(join([A, never(never(A))]))
            self.assert_both(join([never(A), ("most", scaled(A[1], -1))]))
            self.assert_both(join([never(A), ("most", scaled(A[1], -1)), B]))
            self.assert_both(join([C, never(("unlike", C[1])), D]))

    def test_what_no_point_fulfils(self):
        self.assert_both(both([A, never(A)]))
        self.assert_both(either([A, never(A)]))

    def test_plain_ones(self):
        for part in (A, both([A, either([B, C])]), either([D, both([A, C])])):
            self.assert_both(part)

    def test_many(self):
        chance = random.Random(15)
        for k in range(150):
            self.assert_both(drawn(chance, 4, LOOSE_WORDS, some_compare), chance.sample(POINTS, 7))

    def test_what_is_told_may_be_handed_in_again(self):
        chance = random.Random(16)
        for k in range(30):
            part = drawn(chance, 4, LOOSE_WORDS, some_compare)
            for told in (plain(part), opposite(part), opposite(opposite(part))):
                self.assert_both(told, chance.sample(POINTS, 7))

    def test_thirty_figures(self):
        part = ("less", ((X, GREAT), (Y, 1 - GREAT)))
        self.assert_both(part)
        self.assert_both(never(part))


class Deep(Timed):
    def test_two_hundred_sentences_within_one_another(self):
        for wrap in (never, lambda part: both([B, part]), lambda part: either([part, B]),
                     lambda part: never(both([B, part]))):
            deep = C
            depth = 1
            while depth < 199:
                deep = wrap(deep)
                depth += 2 if wrap(YES) == ("not", B) else 1
            for point in POINTS[::5]:
                wanted = holds(deep, point)
                self.assertIs(wanted, true_there(deep, point))
                self.assertIs(holds(plain(deep), point), wanted)
                self.assertIs(holds(opposite(deep), point), not wanted)


if __name__ == "__main__":
    unittest.main()
