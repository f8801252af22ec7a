"""All unknowns taken out: points 29 and 30, and of points 1 to 3 what touches them."""

import inspect
import itertools
import random
import unittest

from helper import (GREAT, NO, WORDS_THAT_COMPARE, YES, Timed, below, deepest, fraction_told, grid, is_true, point_told,
                    true_there)
from realsay import errors, many
from realsay.forms import form_of
from realsay.holding import holds
from realsay.line import line
from realsay.many import freed, paper, truth
from realsay.sentences import all_of, both, compare, compares_of, either, free_in, never, some_of
from realsay.settling import settle
from realsay.texts import read

# Each shape that is let in: one word; words side by side; two, three and more within one another; a bent one alone, in
# the reach of another, with others in its reach, and beside another in one reach.
TRUE = (
    "some x: x = 3", "some x: 2*x < 1 and 3*x > 1", "all x: x < 1 or x > 0", "some x: x^2 = 2", "all x: x^2 >= 0",
    "some x: x^2 = 2 and x > 1 and 10*x < 15", "all x: x^2 - 2*x + 1 >= 0", "not (some x: x^2 < 0)",
    "not (all x: x^2 > 0)", "all x: x^2 > 0 or x = 0", "some x: -x^2 + 3*x > 2",
    "all x: some y: y > x", "all x: all y: x < y or x >= y", "some x: some y: x + y = 1 and x - y = 4",
    "some y: all x: x - x + y = y", "not (some y: all x: y > x)", "all x: not (all y: y < x)",
    "all x: all y: x >= y or (some z: x < z and z < y)", "all x: some y: all z: z < y or z >= x",
    "some x: all y: some z: x + y + z = 0 and z < 1 - y", "all x: some y: some z: x < y and y < z and 2*y = x + z",
    "all a: some b: all c: some d: a + b < c + d and d > a", "all a: all b: all c: a /= b or b /= c or a = c",
    "all a: some x: x^2 = a or a < 0", "some a: all x: x^2 + x > a", "some a: all x: x^2 - 2*x >= a and a >= -1",
    "all a: some x: x^2 + 3*x > a", "some z: all x: z < x^2", "all y: (some x: x^2 = y) or (some z: z^2 = -y)",
    "some y: (some x: x^2 + y = 1 and x = y) and 5*y > 3", "some y: some x: x^2 = y and x + y = 1 and 2*x > 1",
    "all x: some z: z > x^2", "some x: x^2 = 2 and (all z: z < x or 5*z > 7)",
    "all x: some z: all w: w < z + x or w >= x^2", "all x: x^2 < 4 or (some z: some w: z < w and w < x^2 and z > 3)",
    "all y: some x: x^2 > y and (all z: z > x or z < x + 1)",
    "(some x: x^2 = 2) and (all y: some z: z = 2*y) and not (some w: w^2 = -1)",
    "(some x: x < 1 and x > 2) or (all x: x^2 + 1 > 0)", "yes", "not no",
    "all y: (all x: x^2 > y) or (some x: x^2 = y) and y >= 0", "some x: all y: y^2 >= x and x = 0",
    "some x: some y: x^2 = 2 and y = 1", "some x: some y: some z: some w: x < y and y < x + 1 and z = 2*w and w > 3",
    "some x: some z: some w: x^2 + z + w < 0 and x^2 - z - 2*w < 1 and x - z + w > 3 and x + z < 5",
    "some z: some x: some y: z^2 + x + y < 4 and z^2 - x - 2*y < 4 and z + x > 1 and y > x and z < y",
    "some a: some x: some y: a^2 + x + y < 4 and a^2 - x - 2*y < 4 and a + x > 1 and y > x and a < y",
)
FALSE = (
    "some x: x < 1 and x > 2", "all x: x < 1", "some x: x^2 < 0", "all x: x^2 > 0", "some x: x^2 + x + 1 = 0",
    "some x: x^2 = 2 and 5*x > 7 and 100*x > 142", "not (some x: x^2 = 2)", "all x: x /= 1",
    "some x: x^2 = 2 and x = 1",
    "some y: all x: y > x", "all x: all y: x < y or x > y", "some x: some y: x + y = 1 and 2*x + 2*y = 3",
    "all x: some y: y > x and y < x", "all x: not (some y: y < x)", "some x: all y: x /= y",
    "all x: all y: some z: x < z and z < y", "all x: some y: all z: z < y", "some x: all y: all z: x + y < z",
    "all x: some y: some z: x < y and y < z and 2*y > x + z and y + 1 = x + 1/2 and z = x + 1",
    "all a: some b: all c: some d: a + b < c + d and d < a", "all a: some x: x^2 = a", "some a: all x: x^2 + x < a",
    "some a: all x: x^2 - 2*x >= a and a > -1", "all a: some x: x^2 + 3*x < a", "some z: all x: z > x^2",
    "all y: (some x: x^2 = y) or (some z: z^2 = -y - 1)", "some y: (some x: x^2 + y = 1 and x = y) and 8*y > 5",
    "some y: some x: x^2 = y and x + y = 1 and x > 1", "some x: x^2 = 2 and (all z: z < x or 2*z > 3)",
    "all x: some z: z > x^2 and z < 2*x", "all x: x^2 <= 4 or (some z: some w: z < w and w < x and z > 2)",
    "all y: some x: x^2 > y and (all z: z > x or z < x)", "(some x: x^2 = 2) and (some x: x^2 = -2)", "no", "not yes",
    "some x: all y: y^2 >= x and x > 0",
    # Names that have nothing to do with one another, of which some can't be so.
    "some x: some y: x^2 < 0 and y = 1", "some x: some y: x = 1 and y^2 < 0",
    "some x: some y: some z: x < y and y < x - 1 and z = 2", "some x: some y: some z: x = 2 and y < z and z < y - 1",
    "some z: some x: some y: z^2 + z + 1 <= 0 and x < y and y < x + 1",
    "some x: some y: some z: some w: x < y and y < x + 1 and z < w and 2*w < 2*z - 1",
    "some x: some y: some z: some w: x < y and 2*y < 2*x - 1 and z < w and w < z + 1",
    "some x: some y: some z: x = 1 and y^2 - y + 1 = 0 and z = 2",
    "some x: some y: some z: some w: some v: x = 1 and y = 2 and z < w and w < v and v < z",
    # A bent word with two others straight within it.
    "some x: some z: some w: x^2 + z + w < 0 and x^2 - z - w < 0 and x > 1",
    "some x: some z: some w: x^2 + z + w < 0 and x^2 - z - 2*w < 1 and x + z - w > 3 and w > 5 and x + z < 5",
    "some y: some x: some z: x^2 + y + z < 1 and x^2 - y - z < 1 and x > 1 and y < z",
    "all x: all z: all w: x^2 + z < w or x^2 - z < 2*w or x + w < 3*z or w < 9",
    "some z: some x: some y: z^2 + x + y < 0 and z^2 - x - y < 0 and z > 1",
    "some a: some x: some y: a^2 + x + y < 4 and a^2 - x - 2*y < 4 and a + x > 9 and y > x and a < y",
    "some z: some x: some y: z^2 + x + y < 4 and z^2 - x - 2*y < 4 and z + x > 9 and y > x and z < y",
)


class Many(Timed):
    def assert_freed(self, S, count=30):
        """The sentence freed holds where the sentence does, at points of its free names."""
        if isinstance(S, str):
            S = read(S)
        told = freed(S)
        self.assert_plain(told, free_in(S))
        self.assertLessEqual(deepest(told), 200)
        if free_in(S) == ():
            self.assertIn(told, (YES, NO))
        answers = set()
        for at in grid(free_in(S), count):
            wanted = is_true(S, at)
            self.assertIs(true_there(told, point_told(at)), wanted, (S, at))
            answers.add(wanted)
        return answers

    def assert_says(self, text, wanted):
        """The text's sentence freed holds at just the points at which the wanted one does."""
        told = freed(read(text))
        names = free_in(read(text))
        self.assert_plain(told, names)
        for at in grid(names, 60):
            self.assertIs(true_there(told, point_told(at)), true_there(read(wanted), point_told(at)), (text, at))

    def assert_paper(self, S):
        """The paper of the sentence is as point 30 tells, and it agrees with the truth."""
        if isinstance(S, str):
            S = read(S)
        told = paper(S)
        self.assertIs(type(told), tuple)
        L, answer = told
        name = S[1]
        self.assert_plain(L, (name,))
        rest = S[2] if S[0] == "some" else ("not", S[2])
        for number in line([part[1] for part in compares_of(L)], name) + tuple(map(fraction_told, (0, 1, -1, 3, -8))):
            self.assertIs(true_there(L, {name: number}), is_true(rest, {}, **{name: number}), (S, number))
        self.assert_answer(L, answer, name)
        self.assertIs(truth(S), (answer[0] == "yes") == (S[0] == "some"))
        return answer[0]

    def assert_answer(self, L, answer, name):
        self.assertEqual(len(answer), 2)
        if answer[0] == "yes":
            self.assert_number(answer[1])
            self.assertTrue(holds(L, {name: answer[1]}))
        else:
            self.assertEqual(answer, settle(L, name))
            self.assertEqual(answer[0], "no")
            self.assertEqual(len(answer[1]), len(line([part[1] for part in compares_of(L)], name)))
            self.assertFalse(any([holds(L, {name: number}) for number in answer[1]]))


class Interface(unittest.TestCase):
    def test_arguments(self):
        for asked in (many.freed, many.truth, many.paper):
            self.assertEqual(list(inspect.signature(asked).parameters), ["S"])


class Freed(Many):
    def test_without_words(self):
        for text in ("yes", "no", "x < y", "not x < y", "not (x = y and not y < 1 or x^3*y < 0)", "x < y and y < 1",
                     "not not (x < 1 or y /= x)", "x^9 < 0"):
            self.assert_freed(text)

    def test_one_word(self):
        for text in ("some x: x > a", "all x: x > a", "some x: a*x = 1", "all x: a*x = 0", "all x: a*x + b > 0",
                     "some x: x^2 = a", "all x: x^2 > a", "some x: x^2 + b*x + c < 0", "all x: x^2 + b*x + c > 0",
                     "some x: x > a and x < b", "all x: x > a or x < b", "not (some x: x > a and x <= b)",
                     "some x: not (x > a or x <= b)", "all x: not (x^2 = a and x > b)", "some x: a < b", "all x: a < b",
                     "some x: x^2 = a and x > b", "all x: x^2 + a*x > b or x < a", "some x: b*x < 1 and x^2 < a",
                     "some x: -2*x^2 + a*x = b and a*x > 1"):
            self.assert_freed(text)

    def test_what_is_told_of_some(self):
        self.assert_says("some x: x > a and x < b", "a < b")
        self.assert_says("all x: x > a or x < b", "a < b")
        self.assert_says("some x: x^2 + b*x + c < 0", "b^2 > 4*c")
        self.assert_says("all x: x^2 + b*x + c > 0", "b^2 < 4*c")
        self.assert_says("all x: x^2 + b*x + c >= 0", "b^2 <= 4*c")
        self.assert_says("some x: x^2 = a", "a >= 0")
        self.assert_says("not (some x: x^2 = a)", "a < 0")
        self.assert_says("all x: a*x + b > 0", "a = 0 and b > 0")
        self.assert_says("some y: all x: x^2 + y > a and y < b", "a < b")
        self.assert_says("all y: some x: x^2 = y or y < a", "a >= 0")
        self.assert_says("some x: all y: x < a or y < x", "yes")
        self.assert_says("all x: all y: x < y or x >= a or y <= b", "a <= b")

    def test_two_words(self):
        for text in ("some x: some y: x > y and x < a and y > b", "all x: some y: y > x + a and y < x + b",
                     "some x: all y: y < x or y > a", "all x: all y: a*x + b*y < 1", "some x: all y: a*x + b*y < 1",
                     "all x: some y: a*x + b*y < 1", "some x: some y: a*x + b*y = 1 and x = y",
                     "all y: some x: x^2 + b*x > y", "some y: all x: x^2 + b*x > y",
                     "some y: some x: x^2 + y = a and x > y",
                     "all y: some x: x^2 = y + a or y < b", "some y: all x: (x^2 > y + a or x < b) and y > -4",
                     "some x: some z: x^2 + z = a and z > x + b", "all x: some z: x^2 + a*x < z and z < b or x > 1",
                     "some x: all z: x^2 + b*x > a and (z < x or z > 1)",
                     "all x: not (some y: y > x and not y > a + b)"):
            self.assert_freed(text, count=20)

    def test_three_words(self):
        for text in ("some x: some y: some z: x < y and y < z and z < a and x > b",
                     "all x: some y: all z: z < y or z > x + a",
                     "some x: all y: some z: x + y + z = a and z < b - y",
                     "all x: all y: some z: x < z and z < y or x >= y + a",
                     "all y: some x: all z: x^2 > y and (z < x + a or z > b)",
                     "some y: some x: some z: x^2 + z = y and z < a",
                     "some y: some z: some x: a*x + y < z and z < b and y > 1",
                     "all x: some z: all w: w < z + x or w >= x^2 + a"):
            self.assert_freed(text, count=12)

    def test_words_side_by_side_and_within(self):
        for text in ("(some x: x > a) and (all x: x^2 > b)", "(some x: x^2 = a) or (all y: y > b or y < a)",
                     "a < b and (some x: x^2 = a and (all z: z < x or z > b))",
                     "some y: (some x: x^2 = y) and (some z: z^2 + y = a)",
                     "all y: (some x: x^2 + b*x = y) or (all z: z^2 + a*z > y)", "not (a = b or not (some x: a*x = b))",
                     "some y: y > a and not (some x: x > y and x < b)",
                     "(some x: x = a) and not (all x: x /= b) and a < b",
                     "some y: (some x: some z: x + z < y and x > a) or (all w: w > y or w < b)"):
            self.assert_freed(text, count=20)

    def test_no_name_but_the_free_ones(self):
        self.assertEqual(free_in(freed(read("some x: x > a and x < b"))), ("a", "b"))
        self.assertEqual(freed(read("some x: x > a")), YES)
        self.assertEqual(freed(read("all x: x > a")), NO)
        self.assertEqual(freed(read("some x: x = a and x /= a")), NO)

    def test_closed(self):
        for text in TRUE:
            self.assertEqual(freed(read(text)), YES, text)
        for text in FALSE:
            self.assertEqual(freed(read(text)), NO, text)

    def test_refused(self):
        beyond = {"name": "x", "form": read("x^3 < a")[1]}
        self.assert_refused(errors.Beyond, beyond, freed, read("some x: x^3 < a"))
        self.assert_refused(errors.Twice, {"name": "x"}, freed, read("(some x: x < a) and x < b"))
        self.assert_refused(errors.Twice, {"name": "x"}, freed, read("(some y: y^3 < 1) and (some x: x < a) and x < b"))


class Drawn(Many):
    def leaf(self, chance, names, bent, free):
        """A compare that goes beyond none of the words, bent being the name that may stand in the second power."""
        pairs = [((), chance.randint(-4, 4))]
        for name in names:
            pairs.append((((name, 1),), chance.randint(-3, 3)))
            if name == bent:
                pairs.append((((name, 2),), chance.choice((0, 1, 1, -1, 2, -2))))
            if name == bent or bent is None:
                pairs.extend([(tuple(sorted([(name, 1), (other, 1)])), chance.choice((0, 0, 1, -2))) for other in free])
        pairs.extend([(((other, chance.randint(1, 2)),), chance.randint(-2, 2)) for other in free])
        return compare(chance.choice(WORDS_THAT_COMPARE), form_of(pairs))

    def joined(self, chance, count, leaf):
        if count == 1:
            return leaf() if chance.random() < 0.8 else never(leaf())
        first = chance.randint(1, count - 1)
        join = chance.choice((both, either))
        return join([self.joined(chance, first, leaf), self.joined(chance, count - first, leaf)])

    def sentence(self, chance, names, bent, free, count):
        S = self.joined(chance, count, lambda: self.leaf(chance, names, bent, free))
        for place in range(len(names) - 1, -1, -1):
            S = chance.choice((some_of, all_of))(names[place], S)
            if place > 0 and chance.random() < 0.4:
                # Beside an inner word, a compare in the outer ones alone.
                outer = names[:place]
                S = chance.choice((both, either))([S, self.leaf(chance, outer, bent, free)])
            if chance.random() < 0.2:
                S = never(S)
        return S

    def assert_drawn(self, seed, shapes, free, most, rounds):
        chance = random.Random(seed)
        answers = set()
        for k in range(rounds):
            names, bent = chance.choice(shapes)
            S = self.sentence(chance, names, bent, free, chance.randint(1, most))
            answers |= self.assert_freed(S, count=4)
            if free == () and S[0] in ("some", "all"):
                self.assert_paper(S)
        self.assertEqual(answers, {True, False})

    def test_straight(self):
        self.assert_drawn(29, (("y", None), ("yz", None), ("yzw", None)), (), 5, 60)

    def test_straight_with_free_names(self):
        self.assert_drawn(30, (("y", None), ("yz", None)), ("a",), 4, 60)
        self.assert_drawn(31, (("y", None), ("yz", None)), ("a", "b"), 3, 40)

    def test_bent(self):
        self.assert_drawn(32, (("x", "x"), ("yx", "x"), ("xz", "x"), ("yxz", "x"), ("xzw", "x")), (), 4, 100)
        self.assert_drawn(35, (("zv", "z"), ("zvw", "z"), ("vzw", "z")), (), 4, 60)

    def test_bent_with_free_names(self):
        self.assert_drawn(33, (("x", "x"), ("yx", "x"), ("xz", "x"), ("yxz", "x")), ("a",), 3, 60)
        self.assert_drawn(34, (("x", "x"), ("yx", "x"), ("xz", "x")), ("a", "b"), 3, 40)


class Truth(Many):
    def test_it_is_known(self):
        for text in TRUE:
            self.assertIs(truth(read(text)), True, text)
            self.assertIs(truth(never(read(text))), False, text)
        for text in FALSE:
            self.assertIs(truth(read(text)), False, text)
            self.assertIs(truth(never(read(text))), True, text)

    def test_those_known_are_so_by_trying(self):
        for text in TRUE:
            self.assertTrue(is_true(read(text), {}), text)
        for text in FALSE:
            self.assertFalse(is_true(read(text), {}), text)

    def test_thirty_figures(self):
        half = 10 ** 15 - 1
        for text, wanted in (
                (f"some x: x^2 = {GREAT}", True), (f"some x: {GREAT}*x = {GREAT - 1} and x >= 1", False),
                (f"all x: x^2 - {2 * half}*x + {half * half} >= 0", True),
                (f"all x: x^2 - {2 * half}*x + {half * half - 1} >= 0", False),
                (f"all y: some x: x^2 + {GREAT}*x + {GREAT - 1} < y", False),
                (f"some y: all x: x^2 - {GREAT}*x + y > 0", True),
                (f"all x: some y: {GREAT}*y > x and {GREAT - 1}*y < x", False),
                (f"all x: some y: {GREAT}*y > x and {GREAT - 1}*y < x or x <= 0", True),
                (f"all x: x <= 0 or (some y: {GREAT}*y < x and {GREAT - 1}*y > x)", False),
                (f"all x: all y: some z: {GREAT}*x + {GREAT - 1}*y + {GREAT - 2}*z = {GREAT - 3}", True),
                (f"some x: x^2 = {half * half} and (all z: z <= x or z > {half})", True),
                (f"some x: x^2 = {half * half - 1} and (all z: z <= x or z > {half})", False),
                (f"some x: some y: x + y = {GREAT} and x - y = {GREAT - 1} and 2*y = 1", True),
                (f"some x: some y: x + y = {GREAT} and x - y = {GREAT - 2} and 2*y = 1", False)):
            self.assertIs(truth(read(text)), wanted, text)

    def test_unbound(self):
        for text, name in (("x < 1", "x"), ("some x: x < y", "y"), ("z < y and (all x: x > z)", "y"),
                           ("all x: some z: x + b < a + z", "a"), ("not (yes and orange < 1)", "orange")):
            self.assert_refused(errors.Unbound, {"name": name}, truth, read(text))

    def test_which_refusal_goes_ahead(self):
        cube = read("x^3 < 1")[1]
        for asked in (truth, paper):
            self.assert_refused(errors.Twice, {"name": "x"}, asked, read("some x: some x: x^3 < 1"))
            both_ways = read("(some x: x^3 < 1) and (some y: y < 1) and y < 2")
            self.assert_refused(errors.Twice, {"name": "y"}, asked, both_ways)
            self.assert_refused(errors.Twice, {"name": "y"}, asked, read("a < 1 and (some y: some y: y < 1)"))
            self.assert_refused(errors.Beyond, {"name": "x", "form": cube}, asked, read("a < 1 and (some x: x^3 < 1)"))
            self.assert_refused(errors.Beyond, {"name": "x", "form": cube}, asked, read("(some x: x^3 < 1) and a < 1"))
            self.assert_refused(errors.Unbound, {"name": "a"}, asked, read("(some x: x < 1) and b < a"))


class Paper(Many):
    def test_of_those_known(self):
        for text, wanted in [(text, True) for text in TRUE] + [(text, False) for text in FALSE]:
            S = read(text)
            if S[0] in ("some", "all"):
                self.assertEqual(self.assert_paper(S), "yes" if wanted == (S[0] == "some") else "no", text)

    def test_of_some(self):
        L, answer = paper(read("some x: x^2 = 2 and x > 0"))
        self.assertEqual(answer[0], "yes")
        self.assertEqual([true_there(L, {"x": number}) for number in ((0, 1, 2, 1), (0, -1, 2, 1), (7, 0, 0, 5))],
                         [True, False, False])
        self.assertTrue(true_there(read("x^2 = 2 and x > 0"), {"x": answer[1]}))
        L, answer = paper(read("some x: x > 1 and x < 1"))
        self.assertEqual(answer[0], "no")

    def test_of_all(self):
        L, answer = paper(read("all x: x^2 > 2"))
        self.assertEqual(answer[0], "yes")
        self.assertTrue(true_there(read("x^2 <= 2"), {"x": answer[1]}))
        self.assertEqual([true_there(L, {"x": number}) for number in ((0, 1, 2, 1), (3, 0, 0, 2), (0, 0, 0, 1))],
                         [True, False, True])
        self.assertEqual(paper(read("all x: x^2 >= 0"))[1][0], "no")

    def test_with_words_within(self):
        self.assertEqual(self.assert_paper("all a: some x: x^2 = a"), "yes")
        self.assertEqual(self.assert_paper("all a: a < 0 or (some x: x^2 = a)"), "no")
        L, answer = paper(read("all a: some x: x^2 = a"))
        self.assertEqual([true_there(L, {"a": fraction_told(a)}) for a in (-2, -1, 0, 1)], [True, True, False, False])

    def test_where_the_name_does_not_stand(self):
        self.assertEqual(self.assert_paper(some_of("x", read("some y: y < 1"))), "yes")
        self.assertEqual(self.assert_paper(all_of("x", read("some y: y < 1"))), "no")
        self.assertEqual(self.assert_paper(some_of("x", read("all y: y < 1"))), "no")

    def test_no_paper(self):
        for text in ("yes", "no", "(some x: x < 1) and (some y: y < 1)", "(some x: x < 1) or (all y: y < 1)",
                     "not (some x: x < 1)"):
            self.assert_refused(errors.NoPaper, {}, paper, read(text))

    def test_no_paper_goes_behind_the_others(self):
        cube = read("x^3 < 1")[1]
        self.assert_refused(errors.Unbound, {"name": "x"}, paper, below("x"))
        self.assert_refused(errors.Unbound, {"name": "x"}, paper, read("not (x < 1 or (some y: y < x))"))
        self.assert_refused(errors.Beyond, {"name": "x", "form": cube}, paper, read("not (some x: x^3 < 1)"))
        self.assert_refused(errors.Twice, {"name": "x"}, paper, read("not (some x: all x: x < 1)"))
        self.assert_refused(errors.Unbound, {"name": "y"}, paper, read("some x: x < y"))


class HandedIn(Many):
    def test_what_is_told_is_handed_in_again(self):
        told = freed(read("some x: x^2 + b*x + c < 0 and x > d"))
        self.assertEqual(freed(told), told)
        told = freed(read("some x: x > b and x < c or x^2 < d"))
        self.assertIs(truth(some_of("b", all_of("d", some_of("c", told)))), True)
        self.assertIs(truth(all_of("b", some_of("d", all_of("c", told)))), True)
        self.assertIs(truth(all_of("b", all_of("d", all_of("c", told)))), False)
        L = paper(read("some y: all x: x^2 + x > y"))[0]
        self.assertEqual(settle(L, "y")[0], "yes")

    def test_it_is_told_again(self):
        S = read("some x: x^2 + b*x + c < 0 and x > d")
        self.assertEqual(freed(S), freed(S))

    def test_very_many_words_within_one_another(self):
        # As a sheet has them that knows very many sentences.
        names = [one + other + "q" for one, other in itertools.product("abcdefghijklmnopqrst", repeat=2)]
        row = [read(f"{one} < {other}") for one, other in zip(names, names[1:])]
        for parts, wanted in ((row, True), (row[:150] + [read(f"{names[150]} < {names[0]}")], False)):
            S = both(parts)
            for name in names:
                S = some_of(name, S)
            self.assertIs(truth(S), wanted)

    def test_twelve_sentences_within_one_another(self):
        for first, second in itertools.product((some_of, all_of), repeat=2):
            S = read("p + a < b + c + d + e and f + g + h < i + k")
            for place, name in enumerate("abcdefghik"):
                S = (first if place % 2 else second)(name, S)
            self.assertEqual(deepest(S), 12)
            told = freed(S)
            self.assert_plain(told, ("p",))
            self.assertLessEqual(deepest(told), 200)


if __name__ == "__main__":
    unittest.main()
