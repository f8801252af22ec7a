"""Which sentences are allowed: points 27 and 28, and of point 2 what touches them."""

import inspect
import itertools
import random
import unittest

from helper import LOOSE_WORDS, NO, WORDS_THAT_COMPARE, YES, Timed, below, drawn
from realsay import errors, rules
from realsay.forms import form_of
from realsay.rules import allowed
from realsay.sentences import all_of, both, compare, either, never, some_of
from realsay.texts import read


def form(text):
    """The lean form of a sum."""
    return read(f"{text} < 0")[1]


def with_each_word(text):
    """The text with some or all in the place of each some."""
    pieces = text.split("some")
    for words in itertools.product(("some", "all"), repeat=len(pieces) - 1):
        yield "".join([piece + word for piece, word in zip(pieces, words + ("",))])


class Rules(Timed):
    def sentence(self, text):
        return read(text) if isinstance(text, str) else text

    def assert_allowed(self, text):
        self.assertIs(allowed(self.sentence(text)), True)

    def assert_twice(self, text, name):
        self.assert_refused(errors.Twice, {"name": name}, allowed, self.sentence(text))

    def assert_beyond(self, text, name, sum_text):
        fields = {"name": name, "form": form(sum_text)}
        self.assert_refused(errors.Beyond, fields, allowed, self.sentence(text))

    def assert_beyond_with_each_word(self, text, name, sum_text):
        """Whatever of some and all stands there, whatever the compares say, and behind a not."""
        for turned in with_each_word(text):
            for sign in ("<", "<=", "=", "/="):
                self.assert_beyond(turned.replace("<", sign), name, sum_text)
            self.assert_beyond(f"not ({turned})", name, sum_text)

    def assert_allowed_with_each_word(self, text):
        for turned in with_each_word(text):
            self.assert_allowed(turned)
            self.assert_allowed(f"not ({turned})")


class Interface(unittest.TestCase):
    def test_arguments(self):
        self.assertEqual(list(inspect.signature(rules.allowed).parameters), ["S"])


class BoundTwice(Rules):
    def test_in_its_own_reach(self):
        for first, second in itertools.product((some_of, all_of), repeat=2):
            self.assert_twice(first("x", second("x", below("x"))), "x")
            self.assert_twice(first("x", never(both([below("y"), second("x", below("x"))]))), "x")
            self.assert_twice(first("x", some_of("y", either([below("x"), second("x", below("y"))]))), "x")

    def test_in_its_own_reach_where_it_stands_in_no_compare(self):
        self.assert_twice(some_of("x", some_of("x", below("y"))), "x")
        self.assert_twice(some_of("x", both([below("x"), all_of("x", below("y"))])), "x")

    def test_bound_and_free(self):
        for join, bind in itertools.product((both, either), (some_of, all_of)):
            self.assert_twice(join([bind("x", below("x")), below("x")]), "x")
            self.assert_twice(join([below("x"), bind("x", below("x"))]), "x")
            self.assert_twice(never(join([never(below("x")), never(bind("x", below("y")))])), "x")
        self.assert_twice("(some x: x < y) and (some z: x < z)", "x")
        self.assert_twice("(some z: x < z) and (some x: x < y)", "x")

    def test_side_by_side_it_is_not(self):
        for word in ("and", "or"):
            self.assert_allowed(f"(some x: x < 1) {word} (some x: x > 1)")
            self.assert_allowed(f"(some x: x < y) {word} (all x: x > y) {word} (some x: x = z)")
        self.assert_allowed("some y: (some x: x < y) and (all x: x > y)")

    def test_the_first_word_is_told(self):
        self.assert_twice("(some y: some y: y < 1) and (some x: some x: x < 1)", "y")
        self.assert_twice("(some x: some x: x < 1) and (some y: some y: y < 1)", "x")
        self.assert_twice("(some y: y < 1) and (some x: x < 1) and x < 1 and y < 1", "y")
        self.assert_twice("x < 1 and y < 1 and (some x: x < 1) and (some y: y < 1)", "x")
        self.assert_twice("some y: some x: (some x: x < 1) and (some y: y < 1)", "y")
        self.assert_twice("some z: some y: some x: (some x: x < z) and (some y: y < 1)", "y")

    def test_the_first_word_with_such_a_name_not_the_breach_is_told(self):
        # The first x is bound once there; y is bound twice ahead of the breach in x.
        self.assert_twice("(some x: x < 1) and (some y: some y: y < 1) and (some x: some x: x < 1)", "x")
        self.assert_twice("(some x: x < 1) and (some y: some y: y < 1) and x < 2", "x")
        self.assert_twice("(some z: z < 1) and (some y: some y: y < 1) and (some x: some x: x < 1)", "y")

    def test_at_two_places_and_free_at_a_third(self):
        for parts in itertools.permutations(["(some x: x < 1)", "(all x: x > 1)", "x = 1"]):
            for word in (" and ", " or "):
                self.assert_twice(word.join(parts), "x")

    def test_each_name_once(self):
        self.assert_allowed("some x: all y: some z: x + y < z or a < b")
        for S in (YES, NO, below("x"), read("x < y and not (x = 1 or y^9*x^3 < z)")):
            self.assert_allowed(S)


class ThirdPower(Rules):
    def test_alone(self):
        for power in range(3, 10):
            self.assert_beyond_with_each_word(f"some x: x^{power} < 0", "x", f"x^{power}")
        self.assert_allowed_with_each_word("some x: x^2 < 0")
        self.assert_allowed_with_each_word("some x: x < 0")

    def test_among_others(self):
        self.assert_beyond_with_each_word("some x: 1 + x - 2*x^2 + x^3 < 0", "x", "1 + x - 2*x^2 + x^3")
        self.assert_beyond("some x: x < 1 and (x = 2 or not x^3 = 3)", "x", "x^3 - 3")
        self.assert_beyond("some x: b*x^3 < 1", "x", "b*x^3 - 1")

    def test_of_free_names_it_is_let_in(self):
        self.assert_allowed("some x: x + b^3 < c^9")
        self.assert_allowed("some x: b^9*x < c^3*x + 1")
        self.assert_allowed("b^3 < 0 and some x: x < 1")


class SecondPowerBesideAnother(Rules):
    def test_a_free_name(self):
        self.assert_beyond_with_each_word("some x: b*x^2 < 0", "x", "b*x^2")
        self.assert_beyond("some x: x^2 + b^2*x^2 = c", "x", "x^2 + b^2*x^2 - c")
        self.assert_allowed_with_each_word("some x: x^2 + b*x + b*c < 0")
        self.assert_allowed_with_each_word("some x: x^2 + b^2*x < 0")

    def test_a_bound_name(self):
        self.assert_beyond("some x: some y: x^2*y < 0", "x", "x^2*y")
        self.assert_beyond("some y: some x: x^2*y < 0", "y", "x^2*y")


class BoundNamesBeside(Rules):
    def test_the_first_word_is_told(self):
        self.assert_beyond_with_each_word("some x: some y: x*y < 0", "x", "x*y")
        self.assert_beyond_with_each_word("some y: some x: x*y < 0", "y", "x*y")
        self.assert_beyond("some x: b < 0 and (all y: b*x*y = 1)", "x", "b*x*y - 1")
        self.assert_allowed_with_each_word("some x: some y: x + y < 0")
        self.assert_allowed_with_each_word("some x: some y: b*x + c*y < 0")

    def test_a_word_between(self):
        self.assert_beyond("some z: some x: some y: x*y < z", "x", "x*y - z")
        self.assert_beyond("some x: some z: some y: x*y < z", "x", "x*y - z")
        self.assert_beyond("some x: some z: some y: y*z < x", "z", "y*z - x")

    def test_the_same_name_as_a_free_one(self):
        self.assert_allowed("some x: x*y < 1")
        self.assert_beyond("some y: some x: x*y < 1", "y", "x*y - 1")

    def test_the_document_s_own(self):
        self.assert_allowed("all a: some x: x^2 = a")
        self.assert_allowed("some x: x^2 + b*x + c < 0")
        self.assert_beyond("all a: some x: x^2 + a*x < 1", "a", "x^2 + a*x - 1")


class FreeNamesBeside(Rules):
    def test_with_a_bent_word_in_its_reach(self):
        self.assert_beyond_with_each_word("some y: some x: b*y + x^2 < 0", "y", "b*y + x^2")
        self.assert_allowed_with_each_word("some y: some x: y + b + x^2 < 0")
        self.assert_allowed_with_each_word("some y: some x: b*y + x < 0")
        # The bent word stands in its reach, yet not in the reach of the compare, nor the other way about.
        self.assert_beyond("some y: b*y < 1 and (some x: x^2 < 1)", "y", "b*y - 1")
        self.assert_beyond("some y: (some x: x^2 < 1) or b*y < 1", "y", "b*y - 1")
        self.assert_allowed("(some y: b*y < 1) and (some x: x^2 < 1)")
        self.assert_beyond("some y: some z: b*y < z and (some x: x^2 < 1)", "y", "b*y - z")
        self.assert_beyond("some y: b*y < 1 and (some x: x^2 < 1) and (some z: z < 1)", "y", "b*y - 1")
        self.assert_beyond("some y: b*y < 1 and (some z: z < 1) and (some x: x^2 < 1)", "y", "b*y - 1")

    def test_in_the_reach_of_a_bent_word(self):
        self.assert_beyond_with_each_word("some x: some y: b*y + x^2 < 0", "y", "b*y + x^2")
        self.assert_beyond("some x: x^2 < 1 and (some y: b*y < x)", "y", "b*y - x")
        self.assert_beyond("some x: x^2 < 1 and (some z: some y: b*y < z)", "y", "b*y - z")
        self.assert_allowed_with_each_word("some x: some y: b*x + x^2 + y < 0")
        self.assert_allowed("some x: x < 1 and (some y: b*y < x)")
        self.assert_allowed("some x: x < 1 and (some y: b*y < x) and (some z: z < 1)")

    def test_beside_a_bent_word_s_own_name_it_is_let_in(self):
        self.assert_allowed("some x: x^2 + b*x < 0")
        self.assert_allowed("some y: some x: x^2 + b*x < y")
        self.assert_allowed("some y: (some x: x^2 + b*x < y) and (some z: z^2 + c*z < y)")
        self.assert_allowed("some y: (some x: x^2 < y) and (some z: b*z < y)")

    def test_powers_of_names_bound_elsewhere_do_not_bend(self):
        # Not x, but y is bent here: x stands in the second power in no reach of its own.
        self.assert_allowed("some x: b*x < 1 and c^2 < 1")
        self.assert_beyond("some x: b*x < 1 and (some y: y^2 < 1)", "x", "b*x - 1")


class SecondPowerInTheReachOfOthers(Rules):
    def test_of_two_words(self):
        self.assert_beyond_with_each_word("some y: some z: some x: x^2 < 0", "x", "x^2")
        self.assert_beyond("some y: some z: y < z and (some x: x^2 < z)", "x", "x^2 - z")
        self.assert_beyond("some y: y < 1 and (some z: some x: x^2 < 1)", "x", "x^2 - 1")
        self.assert_beyond("some y: some z: some w: some x: x^2 < 1", "x", "x^2 - 1")
        self.assert_allowed_with_each_word("some y: some z: some x: x < 0")

    def test_of_one_that_is_not_bent(self):
        self.assert_allowed_with_each_word("some y: some x: x^2 < 0")
        self.assert_allowed_with_each_word("some y: some x: x^2 < y")
        self.assert_allowed_with_each_word("some y: (some x: x^2 < y) and (some z: z^2 < y)")
        self.assert_allowed_with_each_word("some y: some x: x^2 < y and (some z: some w: z + w < x)")
        self.assert_allowed("(some z: z < 1) and (some w: w^2 < 1) and (some y: some x: x^2 < y)")

    def test_of_one_that_is_bent(self):
        self.assert_beyond_with_each_word("some y: some x: x^2 + y^2 < 0", "x", "x^2 + y^2")
        self.assert_beyond("some y: y^2 < 1 and (some x: x^2 < y)", "x", "x^2 - y")
        self.assert_beyond("some y: (some x: x^2 < y) or y^2 < 1", "x", "x^2 - y")
        self.assert_allowed_with_each_word("some y: some x: x + y^2 < 0")
        self.assert_allowed("(some y: y^2 < 1) and (some x: x^2 < 1)")

    def test_alone(self):
        self.assert_allowed_with_each_word("some x: x^2 < 0")
        self.assert_allowed_with_each_word("(some x: x^2 < 0) and (some y: y^2 + b*y < 0) and (some z: z*b < 1)")


class WhichIsTold(Rules):
    def test_the_first_word_ahead_of_the_first_compare(self):
        self.assert_beyond("some x: (some y: y^3 < x) and x^3 < 1", "x", "x^3 - 1")
        self.assert_beyond("(some y: y^3 < 1) and (some x: x^3 < 1)", "y", "y^3 - 1")
        self.assert_beyond("(some x: x < 1) and (some y: y^3 < 1)", "y", "y^3 - 1")
        self.assert_beyond("some x: all y: y^3 < x or y^4 < 1", "y", "y^3 - x")

    def test_the_first_compare_in_its_reach(self):
        self.assert_beyond("some x: x < 1 and x^4 < 1 and x^3 < 1", "x", "x^4 - 1")
        self.assert_beyond("some x: x < 1 and (x = 2 or b*x^2 < 1 and x^3 = 1) and x^9 < 1", "x", "b*x^2 - 1")
        self.assert_beyond("some x: (some y: x*y < 1) and x^3 < 1", "x", "x*y - 1")
        self.assert_beyond("some x: x^3 < 1 and (some y: x*y < 1)", "x", "x^3 - 1")

    def test_the_form_as_it_stands(self):
        self.assert_beyond("some x: 3 < 6*x^3", "x", "1 - 2*x^3")
        self.assert_beyond("some x: 6*x^3 < 3", "x", "2*x^3 - 1")

    def test_whatever_the_rest_would_tell(self):
        self.assert_beyond("some x: x = x + y or x^2 >= 0 or x^3 < 1", "x", "x^3 - 1")
        self.assert_beyond("some x: x^2 < 0 and x^3 < 1", "x", "x^3 - 1")
        self.assert_beyond("a < 0 and a > 0 and (some x: x^3 < 1)", "x", "x^3 - 1")

    def test_twice_goes_ahead_of_beyond(self):
        self.assert_twice("(some x: x^3 < 1) and (some y: some y: y < 1)", "y")
        self.assert_twice("(some x: x^3 < 1) and x < 1", "x")
        self.assert_twice("some x: x^3 < 1 and (all x: x < 1)", "x")
        self.assert_twice("(some x: some y: x*y < 1) and (some z: z < 1) and z = 3", "z")


def places(S, path=()):
    """Pairs of a path and the sentence there, of the sentence and all within it, in the order in which they stand."""
    yield path, S
    inner = S[1] if S[0] in ("both", "either") else S[-1:] if S[0] in ("not", "some", "all") else ()
    for place, part in enumerate(inner):
        yield from places(part, path + (place,))


def refusal(S):
    """What refuses the sentence, straight by the words of points 27 and 28: a class and its fields, or None."""
    words = [(path, part[1]) for path, part in places(S) if part[0] in ("some", "all")]
    compares = [(path, part[1]) for path, part in places(S) if part[0] in WORDS_THAT_COMPARE]

    def within(path, word):
        return len(path) > len(word[0]) and path[:len(word[0])] == word[0]

    def bent(word):
        return any([dict(product).get(word[1], 0) >= 2 for path, form in compares if within(path, word)
                    for product, number in form])

    free = set([name for path, form in compares for product, number in form for name, power in product
                if not any([within(path, word) and word[1] == name for word in words])])
    twice = set([word[1] for word in words if word[1] in free or
                 any([within(word[0], other) and other[1] == word[1] for other in words])])
    for word in words:
        if word[1] in twice:
            return errors.Twice, {"name": word[1]}
    for word in words:
        around = [other for other in words if within(word[0], other)]
        in_bent = any([bent(other) for other in around])
        near_bent = in_bent or any([bent(other) for other in words if within(other[0], word)])
        for path, form in compares:
            for product, number in form:
                power = dict(product).get(word[1], 0)
                beside = set(dict(product)) - {word[1]}
                if within(path, word) and power > 0 and (
                        power >= 3 or power == 2 and beside or beside - free or beside & free and near_bent
                        or power == 2 and (len(around) >= 2 or in_bent)):
                    return errors.Beyond, {"name": word[1], "form": form}
    return None


class Drawn(Rules):
    def leaf(self, chance):
        pairs = [((), 1)]
        for k in range(chance.randint(1, 3)):
            names = chance.sample("abxy", chance.choice((1, 1, 1, 1, 1, 2)))
            pairs.append((tuple([(name, chance.choice((1, 1, 1, 1, 2, 2, 3))) for name in sorted(names)]), 1))
        return compare(chance.choice(WORDS_THAT_COMPARE), form_of(pairs))

    def test_by_the_words_of_the_points(self):
        chance = random.Random(28)
        found = {}
        for k in range(6000):
            S = drawn(chance, chance.randint(1, 5), LOOSE_WORDS + ("some", "all") * 2, self.leaf)
            wanted = refusal(S)
            kind = None if wanted is None else wanted[0]
            found[kind] = found.get(kind, 0) + 1
            if kind is None:
                self.assertIs(allowed(S), True, S)
            else:
                self.assert_refused(kind, wanted[1], allowed, S)
        self.assertGreater(min(found.values()), 300)
        self.assertEqual(set(found), {None, errors.Twice, errors.Beyond})


class HandedIn(Rules):
    def test_each_word_that_compares(self):
        for word in WORDS_THAT_COMPARE:
            self.assert_beyond(some_of("x", (word, form("x^3"))), "x", "x^3")
            self.assert_allowed(some_of("x", (word, form("x^2"))))

    def test_twelve_sentences_within_one_another(self):
        S = read("a + b + c + d + e + f + g + h + i + j + k < 0")
        for name in "abcdefghijk":
            S = some_of(name, S)
        self.assert_allowed(S)
        self.assert_twice(some_of("a", S), "a")

    def test_very_many_words_within_one_another(self):
        names = [one + other + "q" for one in "abcdefghijklmnopqrstuvwxyz" for other in "abcdefghijklmnopqrst"]
        S = below("z")
        for name in names:
            S = some_of(name, S)
        self.assert_allowed(S)
        self.assert_twice(some_of("z", some_of(names[7], S)), names[7])


if __name__ == "__main__":
    unittest.main()
