"""Sentences: points 11, 12, 13 and the putting in of 14, and of point 2 what touches them."""

import copy
import inspect
import itertools
import random
import unittest

from helper import (GREAT, LOOSE_WORDS, NO, WORDS_THAT_COMPARE, XX, XY, YES, Timed, X, Y, below, drawn,
                    true_there)
from realsay import sentences
from realsay.forms import form_of, names_of, scaled
from realsay.sentences import all_of, both, compare, compares_of, either, free_in, never, put, some_of

# x < 0, y <= 0, x^2 = 1, x y /= 0, x + y < 1.
A = ("less", ((X, 1),))
B = ("most", ((Y, 1),))
C = ("equal", (((), -1), (XX, 1)))
D = ("unlike", ((XY, 1),))
E = ("less", (((), -1), (X, 1), (Y, 1)))


def some_compare(chance):
    """Any compare in names a, b, x, y, or what it becomes."""
    pairs = []
    for k in range(chance.randint(1, 3)):
        names = sorted(chance.sample("abxy", chance.randint(0, 2)))
        pairs.append((tuple([(name, chance.randint(1, 2)) for name in names]), chance.randint(-3, 3)))
    return compare(chance.choice(WORDS_THAT_COMPARE), form_of(pairs))


class Interface(unittest.TestCase):
    def test_names_and_arguments(self):
        wanted = {
            "compare": ["word", "F"], "both": ["parts"], "either": ["parts"], "never": ["S"],
            "some_of": ["name", "S"], "all_of": ["name", "S"], "compares_of": ["S"], "free_in": ["S"],
            "put": ["S", "name", "top", "bottom"],
        }
        for name in wanted:
            told = list(inspect.signature(getattr(sentences, name)).parameters)
            self.assertEqual(told, wanted[name], name)


class Compare(Timed):
    def test_lean_form_stays(self):
        form = (((), -3), (X, 2))
        for word in WORDS_THAT_COMPARE:
            self.assertEqual(compare(word, form), (word, form))

    def test_form_is_made_lean(self):
        for word in WORDS_THAT_COMPARE:
            self.assertEqual(compare(word, (((), -6), (X, 4))), (word, (((), -3), (X, 2))))
            self.assertEqual(compare(word, ((X, 12),)), (word, ((X, 1),)))
            self.assertEqual(compare(word, ((XY, 3 * GREAT), (Y, -GREAT))), (word, ((XY, 3), (Y, -1))))

    def test_the_sign_of_the_form_stays(self):
        for word in WORDS_THAT_COMPARE:
            self.assertEqual(compare(word, ((X, -12),)), (word, ((X, -1),)))
            self.assertEqual(compare(word, (((), 6), (X, -4))), (word, (((), 3), (X, -2))))

    def test_forms_without_unknowns(self):
        told = {"less": (YES, NO, NO), "most": (YES, YES, NO), "equal": (NO, YES, NO), "unlike": (YES, NO, YES)}
        for word in WORDS_THAT_COMPARE:
            for number in (1, 2, GREAT):
                self.assertEqual(compare(word, (((), -number),)), told[word][0], word)
                self.assertEqual(compare(word, (((), number),)), told[word][2], word)
            self.assertEqual(compare(word, ()), told[word][1], word)

    def test_is_in_one_form(self):
        for form in ((), (((), 5),), (((), 5), (X, 10)), ((X, 4), (Y, 6))):
            for word in WORDS_THAT_COMPARE:
                self.assert_sentence(compare(word, form))


class Joined(Timed):
    """both, and either with yes and no turned about."""

    def each(self):
        yield "both", both, YES, NO
        yield "either", either, NO, YES

    def test_none(self):
        for word, join, idle, ruling in self.each():
            self.assertEqual(join([]), idle)
            self.assertEqual(join(()), idle)

    def test_one(self):
        for word, join, idle, ruling in self.each():
            for part in (A, YES, NO, ("not", A), ("both", (A, B)), ("either", (A, B)), ("some", "x", A)):
                self.assertEqual(join([part]), part)
                self.assertEqual(join((part,)), part)

    def test_several(self):
        for word, join, idle, ruling in self.each():
            self.assertEqual(join([A, B]), (word, (A, B)))
            self.assertEqual(join((B, A)), (word, (B, A)))
            self.assertEqual(join([D, B, C, A]), (word, (D, B, C, A)))
            self.assert_sentence(join([D, B, C, A]))

    def test_idle_parts_are_left_out(self):
        for word, join, idle, ruling in self.each():
            self.assertEqual(join([idle]), idle)
            self.assertEqual(join([idle, idle]), idle)
            self.assertEqual(join([idle, A]), A)
            self.assertEqual(join([A, idle]), A)
            self.assertEqual(join([idle, A, idle, B, idle]), (word, (A, B)))

    def test_a_ruling_part_is_all(self):
        for word, join, idle, ruling in self.each():
            for parts in ([ruling], [ruling, A], [A, ruling], [A, B, ruling, C], [A, A, ruling], [ruling, ruling]):
                self.assertEqual(join(parts), ruling)
                self.assertEqual(join(tuple(parts)), ruling)

    def test_yes_and_no_together(self):
        for word, join, idle, ruling in self.each():
            for parts in ([idle, ruling], [ruling, idle], [A, idle, B, ruling], [ruling, A, idle]):
                self.assertEqual(join(parts), ruling)

    def test_equal_parts_side_by_side(self):
        for word, join, idle, ruling in self.each():
            self.assertEqual(join([A, A]), A)
            self.assertEqual(join([A, A, A, idle]), A)
            self.assertEqual(join([A, A, B, B]), (word, (A, B)))

    def test_equal_parts_far_from_one_another(self):
        for word, join, idle, ruling in self.each():
            self.assertEqual(join([A, B, A]), (word, (A, B)))
            self.assertEqual(join([B, A, C, D, A, B, E]), (word, (B, A, C, D, E)))
            self.assertEqual(join([A, idle, A]), A)
            again = compare("equal", scaled(C[1], 2))
            self.assertIsNot(again, C)
            self.assertEqual(join([C, ("not", C), again, ("not", again)]), (word, (C, ("not", C))))

    def test_parts_that_are_nearly_equal_stay(self):
        turned = ("less", scaled(A[1], -1))
        parts = (A, turned, ("most", A[1]), ("not", A), ("some", "x", A), ("all", "x", A), ("some", "y", A))
        for word, join, idle, ruling in self.each():
            self.assertEqual(join(parts), (word, parts))

    def test_parts_of_parts_are_not_drawn_up(self):
        for word, join, idle, ruling in self.each():
            for inner in (("both", (A, B)), ("either", (A, B))):
                self.assertEqual(join([inner, C]), (word, (inner, C)))
                self.assertEqual(join([A, inner]), (word, (A, inner)))
                self.assertEqual(join([inner, inner]), inner)
                self.assertEqual(join([inner, A, B]), (word, (inner, A, B)))

    def test_parts_stay_as_they_were(self):
        for word, join, idle, ruling in self.each():
            for parts in ([A, idle, B, A], [A, ruling, B], [idle], [A, A], []):
                before = copy.deepcopy(parts)
                join(parts)
                self.assertEqual(parts, before)
                rowed = tuple(parts)
                self.assertEqual(join(rowed), join(parts))
                self.assertEqual(rowed, tuple(before))

    def test_the_list_may_be_changed_behind_it(self):
        for word, join, idle, ruling in self.each():
            parts = [A, B]
            told = join(parts)
            parts.append(C)
            parts[0] = D
            self.assertEqual(told, (word, (A, B)))

    def test_forty_parts(self):
        parts = [below("x", number) for number in range(40)]
        for word, join, idle, ruling in self.each():
            self.assertEqual(join(parts * 3), (word, tuple(parts)))


class Never(Timed):
    def test_yes_and_no(self):
        self.assertEqual(never(YES), NO)
        self.assertEqual(never(NO), YES)

    def test_others(self):
        for part in (A, B, C, D, ("both", (A, B)), ("either", (A, B)), ("some", "x", A), ("all", "x", A)):
            self.assertEqual(never(part), ("not", part))

    def test_of_never(self):
        self.assertEqual(never(never(A)), ("not", ("not", A)))
        self.assertEqual(never(never(never(A))), ("not", ("not", ("not", A))))
        self.assertEqual(never(never(YES)), YES)


class Bound(Timed):
    def test_yes_and_no(self):
        for bind in (some_of, all_of):
            self.assertEqual(bind("x", YES), YES)
            self.assertEqual(bind("x", NO), NO)

    def test_with_the_word(self):
        for part in (A, ("not", A), ("both", (A, B)), ("either", (A, D)), ("some", "x", A), ("all", "y", A)):
            for name in ("x", "y", "abcdefgh"):
                self.assertEqual(some_of(name, part), ("some", name, part))
                self.assertEqual(all_of(name, part), ("all", name, part))


class ComparesOf(Timed):
    def test_none(self):
        self.assertEqual(compares_of(YES), ())
        self.assertEqual(compares_of(NO), ())

    def test_one(self):
        for part in (A, B, C, D):
            self.assertEqual(compares_of(part), (part,))
            self.assertEqual(compares_of(("not", part)), (part,))
            self.assertEqual(compares_of(("some", "z", part)), (part,))
            self.assertEqual(compares_of(("all", "x", part)), (part,))

    def test_in_their_order_and_as_often_as_they_come(self):
        inner = both([C, never(A), some_of("x", either([B, A]))])
        told = either([D, inner, never(inner), A, all_of("y", D)])
        self.assertEqual(compares_of(told), (D, C, A, B, A, C, A, B, A, A, D))

    def test_order_is_not_sorted(self):
        for parts in itertools.permutations((A, B, C, D)):
            self.assertEqual(compares_of(both(parts)), parts)
            self.assertEqual(compares_of(either([both(parts[:2]), never(both(parts[2:]))])), parts)


class FreeIn(Timed):
    def test_none(self):
        self.assertEqual(free_in(YES), ())
        self.assertEqual(free_in(NO), ())
        self.assertEqual(free_in(some_of("x", A)), ())
        self.assertEqual(free_in(all_of("y", some_of("x", E))), ())

    def test_rising_each_once(self):
        self.assertEqual(free_in(both([B, A, E, D])), ("x", "y"))
        parts = [below(name) for name in ("y", "abc", "b", "ab", "xa", "x", "b", "a")]
        self.assertEqual(free_in(either(parts)), ("a", "ab", "abc", "b", "x", "xa", "y"))
        self.assertEqual(free_in(never(D)), ("x", "y"))

    def test_bound_names(self):
        for bind in (some_of, all_of):
            self.assertEqual(free_in(bind("x", D)), ("y",))
            self.assertEqual(free_in(bind("y", D)), ("x",))
            self.assertEqual(free_in(bind("z", D)), ("x", "y"))
            self.assertEqual(free_in(never(bind("x", both([A, B])))), ("y",))

    def test_bound_in_one_place_and_free_in_another(self):
        for bind in (some_of, all_of):
            for join in (both, either):
                self.assertEqual(free_in(join([bind("x", A), A])), ("x",))
                self.assertEqual(free_in(join([A, bind("x", A)])), ("x",))
                self.assertEqual(free_in(join([bind("x", A), bind("y", A)])), ("x",))
                self.assertEqual(free_in(join([bind("x", D), bind("y", D)])), ("x", "y"))
                self.assertEqual(free_in(join([bind("x", A), B])), ("y",))

    def test_a_word_within_the_reach_of_a_word_with_the_same_name(self):
        for outer, inner in itertools.product((some_of, all_of), repeat=2):
            self.assertEqual(free_in(outer("x", inner("x", A))), ())
            self.assertEqual(free_in(outer("x", inner("x", D))), ("y",))
            self.assertEqual(free_in(outer("x", both([inner("x", A), E]))), ("y",))
            self.assertEqual(free_in(outer("x", both([E, inner("x", A), A]))), ("y",))

    def test_in_the_reach_of_several_words(self):
        parts = both([below(name) for name in "abcd"])
        self.assertEqual(free_in(some_of("b", all_of("d", parts))), ("a", "c"))
        self.assertEqual(free_in(both([some_of("b", parts), all_of("d", below("e"))])), ("a", "c", "d", "e"))


class Put(Timed):
    def test_a_free_name(self):
        self.assertEqual(put(E, "x", 1, 2), ("less", (((), -1), (Y, 2))))
        self.assertEqual(put(E, "y", -3, 1), ("less", (((), -4), (X, 1))))
        self.assertEqual(put(D, "x", -2, 3), ("unlike", ((Y, -1),)))
        self.assertEqual(put(never(E), "x", 1, 2), ("not", ("less", (((), -1), (Y, 2)))))
        self.assertEqual(put(both([E, D]), "x", 5, 1), ("both", (("less", (((), 4), (Y, 1))), ("unlike", ((Y, 1),)))))

    def test_each_word_stays(self):
        for word in WORDS_THAT_COMPARE:
            told = put((word, (((), 1), (X, 1), (Y, 1))), "x", 1, 1)
            self.assertEqual(told, (word, (((), 2), (Y, 1))))

    def test_a_name_that_does_not_stand_in_it(self):
        for part in (A, D, YES, NO, never(D), both([A, never(B)]), some_of("x", E), all_of("y", either([C, E]))):
            self.assertEqual(put(part, "z", 1, 2), part)
            self.assertEqual(put(part, "xa", 1, 2), part)

    def test_a_bound_name(self):
        for bind in (some_of, all_of):
            for part in (bind("x", D), bind("x", never(both([A, E]))), bind("y", bind("x", E))):
                self.assertEqual(put(part, "x", 1, 2), part)

    def test_free_and_bound(self):
        for bind in (some_of, all_of):
            told = put(both([E, bind("x", E)]), "x", 1, 2)
            self.assertEqual(told, ("both", (("less", (((), -1), (Y, 2))), bind("x", E))))
            told = put(either([bind("x", A), B, A]), "x", 1, 1)
            self.assertEqual(told, ("either", (bind("x", A), B)))
            told = put(bind("y", both([E, bind("x", D)])), "x", 1, 2)
            self.assertEqual(told, bind("y", both([("less", (((), -1), (Y, 2))), bind("x", D)])))

    def test_names_bound_by_a_word_stay(self):
        told = put(some_of("y", E), "x", 3, 1)
        self.assertEqual(told, ("some", "y", ("less", (((), 2), (Y, 1)))))
        told = put(all_of("y", never(D)), "x", -3, 1)
        self.assertEqual(told, ("all", "y", ("not", ("unlike", ((Y, -1),)))))
        # The word stays though its name is gone from its reach.
        told = put(some_of("y", both([A, ("less", ((X, 1), (XY, 1)))])), "z", 0, 1)
        self.assertEqual(told[:2], ("some", "y"))
        product = (("x", 1), ("z", 1))
        told = put(all_of("x", ("less", (((), 1), (product, 1), (Y, 1)))), "z", 0, 1)
        self.assertEqual(told, ("all", "x", ("less", (((), 1), (Y, 1)))))

    def test_a_fraction_that_could_be_made_shorter(self):
        for top, bottom in ((1, 2), (2, 4), (50, 100), (GREAT, 2 * GREAT)):
            self.assertEqual(put(E, "x", top, bottom), ("less", (((), -1), (Y, 2))))
            self.assertEqual(put(C, "x", 2 * top, bottom), YES)
            self.assertEqual(put(C, "x", top, bottom), NO)
        self.assertEqual(put(E, "x", 0, 7), ("less", (((), -1), (Y, 1))))

    def test_what_comes_out_is_lean(self):
        # x^2 + 4 y at x = 2 is 4 + 4 y.
        self.assertEqual(put(("most", ((XX, 1), (Y, 4))), "x", 2, 1), ("most", (((), 1), (Y, 1))))

    def test_compares_that_become_yes_or_no(self):
        told = {"less": (YES, NO, NO), "most": (YES, YES, NO), "equal": (NO, YES, NO), "unlike": (YES, NO, YES)}
        for word in WORDS_THAT_COMPARE:
            part = compare(word, form_of([(X, 2), ((), -1)]))
            self.assertEqual(put(part, "x", 1, 3), told[word][0], word)
            self.assertEqual(put(part, "x", 1, 2), told[word][1], word)
            self.assertEqual(put(part, "x", 2, 3), told[word][2], word)

    def test_what_is_folded_then(self):
        # At x = -1, x < 0 and x^2 = 1 are yes; at x = 1, x < 0 is no and x^2 = 1 is yes.
        self.assertEqual(put(both([A, B]), "x", -1, 1), B)
        self.assertEqual(put(both([A, B]), "x", 1, 1), NO)
        self.assertEqual(put(either([A, B]), "x", -1, 1), YES)
        self.assertEqual(put(either([A, B]), "x", 1, 1), B)
        self.assertEqual(put(never(A), "x", -1, 1), NO)
        self.assertEqual(put(never(A), "x", 1, 1), YES)
        self.assertEqual(put(some_of("z", A), "x", -1, 1), YES)
        self.assertEqual(put(all_of("z", A), "x", 1, 1), NO)
        self.assertEqual(put(both([A, C]), "x", -1, 1), YES)
        self.assertEqual(put(either([A, never(C)]), "x", 1, 1), NO)
        self.assertEqual(put(both([either([A, B]), C, B]), "x", 1, 1), B)
        self.assertEqual(put(both([either([never(A), B]), some_of("y", both([A, B]))]), "x", -1, 1),
                         ("both", (B, ("some", "y", B))))

    def test_parts_that_become_equal(self):
        one = ("less", (((), -1), (X, 1), (Y, 1)))
        other = ("less", (((), -3), (X, 3), (Y, 1)))
        for join in (both, either):
            self.assertEqual(put(join([one, other]), "x", 1, 1), ("less", ((Y, 1),)))
            self.assertEqual(put(join([one, B, other]), "x", 1, 1), (join([A, B])[0], (("less", ((Y, 1),)), B)))
            self.assertEqual(put(join([one, other]), "x", 0, 1), (join([A, B])[0], (
                ("less", (((), -1), (Y, 1))), ("less", (((), -3), (Y, 1))))))

    def test_parts_of_parts_are_not_drawn_up(self):
        inner = both([A, either([C, both([B, D])])])
        # At x = 0 x^2 = 1 is no and x y /= 0 is no; at x = -1/2 x < 0 is yes, x^2 = 1 no.
        self.assertEqual(put(inner, "x", 0, 1), NO)
        self.assertEqual(put(inner, "x", -1, 2), ("both", (B, ("unlike", ((Y, -1),)))))
        self.assertEqual(put(both([E, both([B, ("less", ((X, 1), (Y, 2)))])]), "x", 1, 1),
                         ("both", (("less", ((Y, 1),)), ("both", (B, ("less", (((), 1), (Y, 2))))))))

    def test_thirty_figures(self):
        form = form_of([((("x", 9), ("y", 1)), GREAT), ((("x", 8),), -GREAT), ((), 1)])
        told = put(("most", form), "x", -GREAT, GREAT - 1)
        self.assert_sentence(told)
        wanted = form_of([(Y, -GREAT ** 10), ((), -GREAT ** 9 * (GREAT - 1) + (GREAT - 1) ** 9)])
        self.assertEqual(told, compare("most", wanted))

    def test_against_points(self):
        chance = random.Random(12)
        for k in range(300):
            part = drawn(chance, 4, LOOSE_WORDS, some_compare)
            name = chance.choice("abxy")
            top, bottom = chance.randint(-4, 4), chance.randint(1, 4)
            told = put(part, name, top, bottom)
            self.assert_sentence(told)
            self.assertNotIn(name, free_in(told))
            self.assertLessEqual(set(free_in(told)), set(free_in(part)))
            for j in range(5):
                point = {other: (chance.randint(-3, 3), 0, 0, chance.randint(1, 3)) for other in "abxy"}
                there = dict(point, **{name: (top, 0, 0, bottom)})
                del point[name]
                self.assertEqual(true_there(told, point), true_there(part, there))


class All(Timed):
    """What holds for any sentence."""

    WORDS = ("both", "either", "not", "some", "all", "leaf")

    def free_by_hand(self, part, bound):
        word = part[0]
        if word in WORDS_THAT_COMPARE:
            return set(names_of(part[1])) - bound
        if word in ("both", "either"):
            return set().union(*[self.free_by_hand(inner, bound) for inner in part[1]])
        if word == "not":
            return self.free_by_hand(part[1], bound)
        if word in ("some", "all"):
            return self.free_by_hand(part[2], bound | {part[1]})
        return set()

    def test_any(self):
        chance = random.Random(13)
        for k in range(300):
            part = drawn(chance, 5, self.WORDS, some_compare)
            self.assert_sentence(part)
            free = free_in(part)
            self.assertIs(type(free), tuple)
            self.assertEqual(free, tuple(sorted(self.free_by_hand(part, set()))))
            compares = compares_of(part)
            self.assertIs(type(compares), tuple)
            for one in compares:
                self.assertIn(one[0], WORDS_THAT_COMPARE)
            for name in "abxyz":
                told = put(part, name, chance.randint(-3, 3), chance.randint(1, 3))
                self.assert_sentence(told)
                self.assertNotIn(name, free_in(told))
                self.assertLessEqual(set(free_in(told)), set(free) - {name})
                if name not in free:
                    self.assertEqual(told, part)

    def test_two_hundred_sentences_within_one_another(self):
        other = below("w")
        put_in_it = ("less", (((), -1), (Y, 2)))
        for wrap in (never, lambda part: both([other, part]), lambda part: either([part, other]),
                     lambda part: some_of("z", part), lambda part: all_of("z", part)):
            deep, again, wanted = E, compare("less", scaled(E[1], 2)), put_in_it
            for k in range(199):
                deep, again, wanted = wrap(deep), wrap(again), wrap(wanted)
            self.assertEqual(set(compares_of(deep)) - {other}, {E})
            self.assertEqual(set(free_in(deep)) - {"w"}, {"x", "y"})
            self.assertEqual(put(deep, "x", 1, 2), wanted)
            self.assertIsNot(deep, again)
            self.assertEqual(both([deep, again]), deep)
            self.assertEqual(either([again, deep]), deep)


if __name__ == "__main__":
    unittest.main()
