"""Sentences read from texts: points 16, 17, 18, and of point 2 what touches them."""

import inspect
import itertools
import math
import random
import re
import unittest
from fractions import Fraction

from helper import NO, XX, XY, YES, Timed, X, Y, below
from realsay import errors, texts
from realsay.forms import form_of
from realsay.sentences import all_of, both, either, never, some_of
from realsay.texts import read

THIRTY = "9" * 30
RESERVED = ("some", "all", "and", "or", "not", "yes", "no")
# What is read of a < 0, b < 0, c < 0, x < 0, y < 0.
A, B, C, LOW_X, LOW_Y = [below(name) for name in "abcxy"]


class Reading(Timed):
    def assert_read(self, text, wanted):
        told = read(text)
        self.assertEqual(told, wanted, text)
        self.assert_sentence(told)

    def assert_refused(self, *refused):
        for text in refused:
            with self.assertRaises(errors.NoText, msg=repr(text[:200])):
                read(text)


class Interface(Reading):
    def test_names_and_arguments(self):
        self.assertEqual(list(inspect.signature(texts.read).parameters), ["text"])

    def test_the_refusal(self):
        with self.assertRaises(errors.RealError) as caught:
            read("x <")
        self.assertIs(type(caught.exception), errors.NoText)
        self.assertIsInstance(caught.exception, ValueError)


class Blanks(Reading):
    WORDS = ("some", "x", ":", "not", "(", "-", "2", "*", "x", "^", "2", "+", "1", "/", "3", "<=", "y", "or", "x",
             "/=", "1", ")", "and", "yes", "and", "all", "b", ":", "b", ">=", "x")
    WANTED = some_of("x", both([
        never(either([("most", (((), 1), (XX, -6), (Y, -3))), ("unlike", (((), -1), (X, 1)))])),
        all_of("b", ("most", (((("b", 1),), -1), (X, 1))))]))

    def needs_blank(self, one, other):
        return one.isalpha() and other.isalpha() or one.isdigit() and other.isdigit()

    def test_everywhere(self):
        self.assert_read(" ".join(self.WORDS), self.WANTED)
        self.assert_read("   " + "     ".join(self.WORDS) + "  ", self.WANTED)

    def test_none_where_none_is_needed(self):
        text = self.WORDS[0]
        for one, other in zip(self.WORDS, self.WORDS[1:]):
            text += (" " if self.needs_blank(one, other) else "") + other
        self.assertEqual(text, "some x:not(-2*x^2+1/3<=y or x/=1)and yes and all b:b>=x")
        self.assert_read(text, self.WANTED)

    def test_at_each_place(self):
        for place in range(len(self.WORDS) + 1):
            self.assert_read(" ".join(self.WORDS[:place]) + "    " + " ".join(self.WORDS[place:]), self.WANTED)

    def test_lacking_at_each_place(self):
        for place in range(1, len(self.WORDS)):
            one, other = self.WORDS[place - 1], self.WORDS[place]
            text = " ".join(self.WORDS[:place]) + " ".join(self.WORDS[place:])
            if self.needs_blank(one, other):
                self.assert_refused(text)
            else:
                self.assert_read(text, self.WANTED)

    def test_letters_beside_figures_need_none(self):
        self.assert_read("not1<x and2<y", both([("not", ("less", (((), 1), (X, -1)))), ("less", (((), 2), (Y, -1)))]))
        self.assert_read("x<1and y<2or 3<x", read("x < 1 and y < 2 or 3 < x"))
        self.assert_read("0=x^2and y=0", both([("equal", ((XX, -1),)), ("equal", ((Y, 1),))]))

    def test_none_within_a_word(self):
        self.assert_refused("so me x: x < 0", "x < 0 an d y < 0", "n ot x < 0", "y es", "n o", "x < 0 o r y < 0")
        self.assert_refused("1 2 < x", "x y < 0", "x < 1 2")
        self.assert_refused("x < = 1", "x > = 1", "x / = 1", "1 / = x", "x <  = 1", "1 / = 2")
        self.assert_read("x <= 1", ("most", (((), -1), (X, 1))))
        self.assert_read("x >= 1", ("most", (((), 1), (X, -1))))
        self.assert_read("x /= 1", ("unlike", (((), -1), (X, 1))))
        self.assert_read("1/=2", YES)
        self.assert_read("1/2=2", NO)

    def test_blanks_within_powers_and_fractions(self):
        self.assert_read("x ^ 2 < 1 / 2", ("less", (((), -1), (XX, 2))))
        self.assert_read("- x < 0", ("less", ((X, -1),)))

    def test_run_together_signs(self):
        self.assert_read("x<=-1", ("most", (((), 1), (X, 1))))
        self.assert_read("x=-1", ("equal", (((), 1), (X, 1))))
        self.assert_read("not(x<0)", ("not", LOW_X))
        self.assert_read("some x:(x<y)", some_of("x", ("less", ((X, 1), (Y, -1)))))
        self.assert_refused("x==1", "x=<1", "x=>1", "x<>1", "x<<1", "x>>1", "x<==1", "x>==1", "x/==1", "x</=1", "x!=1")


class OtherSigns(Reading):
    TEXT = "some x: x^2 < 10 and y = 1"

    def test_at_each_place(self):
        for sign in ("\n", "\t", "\r", "\v", "\f", "\0", "\u00a0", "\u2003", "A", "X", "Z", "_", ".", ",", ";", "!",
                     "&", "|", "[", "]", "{", "}", "#", "@", "$", "~", "`", "'", '"', "\\", "?",
                     "\u00b2", "\u0663", "\uff11", "\u00e9", "\u03b1", "\uff58", "\u2264", "\u2212"):
            for place in range(len(self.TEXT) + 1):
                self.assert_refused(self.TEXT[:place] + sign + self.TEXT[place:])

    def test_in_the_place_of_a_blank(self):
        for sign in ("\n", "\t", "\r", "\r\n", "\u00a0"):
            for place, old in enumerate(self.TEXT):
                if old == " ":
                    self.assert_refused(self.TEXT[:place] + sign + self.TEXT[place + 1:])

    def test_capital_letters(self):
        for text in ("X < 0", "x < Y", "Some x: x < 0", "SOME x: x < 0", "Yes", "NO", "x < 0 AND y < 0", "aB < 0"):
            self.assert_refused(text)

    def test_signs_of_other_letters_and_figures(self):
        self.assert_refused("\u0663 < x", "x^\u00b2 < 1", "x < \uff11", "\u00e9 < 1", "\u00df < 1", "\u0131 < 1")


class Names(Reading):
    def test_names(self):
        for name in ("a", "z", "xy", "abcdefgh", "zzzzzzzz", "o", "n", "s", "an", "so", "al", "ye", "nots"):
            self.assert_read(name + " < 0", ("less", ((((name, 1),), 1),)))
            self.assert_read(f"some {name}: {name} < x", some_of(name, read(f"{name} < x")))

    def test_names_that_begin_or_end_with_a_word_of_the_language(self):
        for word, more in itertools.product(RESERVED, ("x", "s", "or", "no", "yes")):
            for name in (word + more, more + word):
                if name not in RESERVED and len(name) <= 8:
                    self.assert_read(name + " < 0", ("less", ((((name, 1),), 1),)))
                    self.assert_read(f"not {name} < 0 and yes", ("not", ("less", ((((name, 1),), 1),))))
                    self.assert_read(f"all {name}:{name}<0", ("all", name, ("less", ((((name, 1),), 1),))))

    def test_words_of_the_language_are_no_names(self):
        for word in RESERVED:
            self.assert_refused(f"{word} < 0", f"0 < {word}", f"x * {word} < 0", f"x + {word} < 0", f"{word}^2 < 0")
            self.assert_refused(f"some {word}: x < 0", f"all {word}: x < 0")

    def test_names_of_more_than_eight_letters(self):
        self.assert_refused("abcdefghi < 0", "0 < abcdefghi", "some abcdefghi: yes", "x * abcdefghi < 0")
        self.assert_refused("a" * 40 + " < 0")

    def test_a_name_beside_figures(self):
        for text in ("2x < 0", "x2 < 0", "2 x < 0", "x 2 < 0", "0 < 2x", "0 < x2", "some x2: x < 0", "x1y < 0",
                     "2x^2 < 0", "x^2y < 0", "x^2 y < 0", "1/2x < 0", "some 2: x < 0"):
            self.assert_refused(text)


class Rows(Reading):
    def test_thirty_and_thirty_one(self):
        self.assert_read(THIRTY + " < x", ("less", (((), 10 ** 30 - 1), (X, -1))))
        self.assert_read("x < 1" + "0" * 29, ("less", (((), -(10 ** 29)), (X, 1))))
        self.assert_refused("9" * 31 + " < x", "x < 1" + "0" * 30, "x < " + "9" * 1000)

    def test_noughts_ahead_are_counted(self):
        self.assert_read("x < 007", ("less", (((), -7), (X, 1))))
        self.assert_read("x < " + "0" * 29 + "7", ("less", (((), -7), (X, 1))))
        self.assert_refused("x < " + "0" * 30 + "7")
        self.assert_read("x < " + "0" * 30, LOW_X)
        self.assert_refused("x < " + "0" * 31)

    def test_behind_the_stroke(self):
        self.assert_read("x < 1/" + THIRTY, ("less", (((), -1), (X, 10 ** 30 - 1))))
        self.assert_read("x < 1/" + "0" * 29 + "7", ("less", (((), -1), (X, 7))))
        self.assert_refused("x < 1/1" + "0" * 30, "x < 1/" + "0" * 30 + "7", "x < " + "1" * 31 + "/2")

    def test_nought_behind_the_stroke(self):
        self.assert_refused("x < 1/0", "x < 0/0", "1/0 < x", "x < 1/00", "x < 1/" + "0" * 30, "x * 3/0 < 1",
                            "1/0 = 1/0")
        self.assert_read("x < 0/1", LOW_X)
        self.assert_read("x < 00/03", LOW_X)

    def test_what_may_not_stand_beside_the_stroke(self):
        for text in ("x/2 < 1", "1/x < 1", "1/2/3 < x", "/2 < x", "1/ < x", "x < 1/", "1/-2 < x", "1/+2 < x",
                     "1/2^2 < x", "2^2 < x", "x^2/3 < 1", "1/(2) < x", "1//2 < x"):
            self.assert_refused(text)


class Powers(Reading):
    def test_one_to_nine(self):
        for power in range(1, 10):
            self.assert_read(f"x^{power} < 0", ("less", (((("x", power),), 1),)))
            self.assert_read(f"0 < y*x^{power}", ("less", (((("x", power), ("y", 1)), -1),)))

    def test_others(self):
        for text in ("x^0 < 0", "x^00 < 0", "x^01 < 0", "x^10 < 0", "x^12 < 0", "x^22 < 0", "x^ < 0", "x^-1 < 0",
                     "x^+1 < 0", "x^y < 0", "x^1^1 < 0", "x^2^2 < 0", "^2 < 0", "2^x < 0", "2^2 < x", "x^(2) < 0",
                     "x^1 2 < 0", "x^1/2 < 0", "x^^2 < 0", "x**2 < 0", "x^", "x^yes"):
            self.assert_refused(text)

    def test_powers_that_come_together(self):
        self.assert_read("x*x < 0", ("less", ((XX, 1),)))
        self.assert_read("x^4*y*x^5 < 0", ("less", (((("x", 9), ("y", 1)), 1),)))
        self.assert_read("x^1*x^1 = x^2", YES)


class Sums(Reading):
    def test_minus_ahead(self):
        self.assert_read("-x < 0", ("less", ((X, -1),)))
        self.assert_read("-x + y < -1", ("less", (((), 1), (X, -1), (Y, 1))))
        self.assert_read("-2*x - 3*y < 0", ("less", ((X, -2), (Y, -3))))
        self.assert_read("-1/2 < x", ("less", (((), -1), (X, -2))))
        self.assert_read("0 < -0", NO)
        self.assert_read("not -x < 0", ("not", ("less", ((X, -1),))))

    def test_minus_ahead_goes_with_the_first_term_alone(self):
        self.assert_read("-x + y + 1 < 0", ("less", (((), 1), (X, -1), (Y, 1))))
        self.assert_read("-x*y + x < 0", ("less", ((X, 1), (XY, -1))))

    def test_plus_ahead_and_two_signs(self):
        for text in ("+x < 0", "x < +1", "+1 < x", "--x < 0", "- -x < 0", "-+x < 0", "+-x < 0", "x - -y < 0",
                     "x + -y < 0", "x - +y < 0", "x ++ y < 0", "x -- y < 0", "x*-y < 0", "x*+y < 0", "x < --1",
                     "x < 1 + - 1"):
            self.assert_refused(text)

    def test_what_lacks(self):
        for text in ("x + < 0", "x - < 0", "x * < 0", "* x < 0", "x ** y < 0", "x < 0 +", "x < 0 *", "< 0", "x <",
                     "<", "x", "1", "x + y", "-", "- < 0", "x * * y < 0", "x + * y < 0"):
            self.assert_refused(text)

    def test_no_brackets(self):
        for text in ("(x) < 0", "(x + 1)*2 < 0", "2*(x + 1) < 0", "x < (1)", "-(x) < 0", "(x < 0) < 1", "(1) = 1"):
            self.assert_refused(text)

    def test_sums(self):
        self.assert_read("x - y - 1 < x - y", YES)
        self.assert_read("1 - 2 - 3 = -4", YES)
        self.assert_read("1 - 2 + 3 = 2", YES)
        self.assert_read("2*3*x*1/6*y < 0", ("less", ((XY, 1),)))
        self.assert_read("x*0 + y < 0*y", LOW_Y)

    def test_one_sign_in_a_compare(self):
        for text in ("0 < x < 1", "x = y = 1", "x < y > 0", "x < < 0", "x = < 0", "x < y and < 1", "x + 1", "x y"):
            self.assert_refused(text)


class Words(Reading):
    def test_yes_and_no(self):
        self.assert_read("yes", YES)
        self.assert_read("no", NO)
        self.assert_read(" yes ", YES)
        self.assert_refused("yes yes", "yes no", "yes < 1", "1 < yes", "yesno < ", "yes()", "()yes")

    def test_and_and_or(self):
        self.assert_read("a < 0 and b < 0", ("both", (A, B)))
        self.assert_read("a < 0 or b < 0", ("either", (A, B)))
        self.assert_read("c < 0 and b < 0 and a < 0", ("both", (C, B, A)))
        self.assert_read("c < 0 or b < 0 or a < 0", ("either", (C, B, A)))

    def test_and_binds_closer_than_or(self):
        self.assert_read("a < 0 and b < 0 or c < 0", ("either", (("both", (A, B)), C)))
        self.assert_read("a < 0 or b < 0 and c < 0", ("either", (A, ("both", (B, C)))))
        self.assert_read("a < 0 and b < 0 or b < 0 and c < 0", ("either", (("both", (A, B)), ("both", (B, C)))))
        self.assert_read("a < 0 or b < 0 and c < 0 or x < 0", ("either", (A, ("both", (B, C)), LOW_X)))

    def test_brackets_keep_parts_apart(self):
        self.assert_read("(a < 0 or b < 0) and c < 0", ("both", (("either", (A, B)), C)))
        self.assert_read("a < 0 and (b < 0 or c < 0)", ("both", (A, ("either", (B, C)))))
        self.assert_read("a < 0 and (b < 0 and c < 0)", ("both", (A, ("both", (B, C)))))
        self.assert_read("(a < 0 or b < 0) or c < 0", ("either", (("either", (A, B)), C)))
        self.assert_read("((a < 0))", A)
        self.assert_read("(a < 0) and (b < 0)", ("both", (A, B)))
        self.assert_read("(yes)", YES)

    def test_not(self):
        self.assert_read("not a < 0", ("not", A))
        self.assert_read("not not a < 0", ("not", ("not", A)))
        self.assert_read("not a < 0 and b < 0", ("both", (("not", A), B)))
        self.assert_read("not a < 0 or b < 0", ("either", (("not", A), B)))
        self.assert_read("a < 0 and not b < 0 or c < 0", ("either", (("both", (A, ("not", B))), C)))
        self.assert_read("not (a < 0 and b < 0)", ("not", ("both", (A, B))))
        self.assert_read("not yes", NO)
        self.assert_read("not no", YES)
        self.assert_refused("not", "a < 0 not b < 0", "not and", "not or a < 0", "a < 0 and not", "not ()")

    def test_some_and_all(self):
        self.assert_read("some a: a < 0", ("some", "a", A))
        self.assert_read("all a: a < 0", ("all", "a", A))
        self.assert_read("some b: a < 0", ("some", "b", A))
        self.assert_read("all a: some b: a < 0", ("all", "a", ("some", "b", A)))
        self.assert_read("some a: some a: a < 0", ("some", "a", ("some", "a", A)))

    def test_the_reach_goes_as_far_as_it_can(self):
        for word in ("some", "all"):
            self.assert_read(f"{word} x: a < 0 and b < 0", (word, "x", ("both", (A, B))))
            self.assert_read(f"{word} x: a < 0 or b < 0", (word, "x", ("either", (A, B))))
            self.assert_read(f"{word} x: a < 0 and b < 0 or c < 0", (word, "x", ("either", (("both", (A, B)), C))))
            self.assert_read(f"{word} x: a < 0 or {word} y: b < 0 or c < 0",
                             (word, "x", ("either", (A, (word, "y", ("either", (B, C)))))))
            self.assert_read(f"{word} x: not a < 0 or b < 0", (word, "x", ("either", (("not", A), B))))

    def test_as_a_unit(self):
        for word in ("some", "all"):
            self.assert_read(f"a < 0 and {word} x: b < 0 or c < 0", ("both", (A, (word, "x", ("either", (B, C))))))
            self.assert_read(f"a < 0 or {word} x: b < 0 and c < 0", ("either", (A, (word, "x", ("both", (B, C))))))
            self.assert_read(f"a < 0 or {word} x: b < 0 or c < 0", ("either", (A, (word, "x", ("either", (B, C))))))
            self.assert_read(f"not {word} x: a < 0 or b < 0", ("not", (word, "x", ("either", (A, B)))))
            self.assert_read(f"c < 0 and not {word} x: a < 0 and b < 0",
                             ("both", (C, ("not", (word, "x", ("both", (A, B)))))))
            self.assert_read(f"c < 0 or a < 0 and {word} x: b < 0 or x < 0",
                             ("either", (C, ("both", (A, (word, "x", ("either", (B, LOW_X))))))))

    def test_a_bracket_ends_the_reach(self):
        for word in ("some", "all"):
            self.assert_read(f"({word} x: a < 0) or b < 0", ("either", ((word, "x", A), B)))
            self.assert_read(f"({word} x: a < 0 or b < 0) and c < 0", ("both", ((word, "x", ("either", (A, B))), C)))
            self.assert_read(f"not ({word} x: a < 0) and c < 0", ("both", (("not", (word, "x", A)), C)))
            self.assert_read(f"{word} x: (a < 0) or b < 0", (word, "x", ("either", (A, B))))

    def test_some_and_all_wrong(self):
        for word in ("some", "all"):
            self.assert_refused(word, f"{word} x", f"{word} x:", f"{word}: x < 0", f"{word} x x < 0", f"{word} x < 0",
                                f"{word} x: :", f"{word} x:: x < 0", f"{word} 1: x < 0", f"{word} (x): x < 0",
                                f"{word} x y: x < 0", f"{word} x^2: x < 0", f"{word} -x: x < 0", f"x < 0 {word} x: yes",
                                f"{word} x: and x < 0", f"{word} x:)", f"({word} x: x < 0", f"{word} x: x < 0)")

    def test_what_lacks_beside_and_and_or(self):
        for word in ("and", "or"):
            self.assert_refused(word, f"a < 0 {word}", f"{word} a < 0", f"a < 0 {word} {word} b < 0",
                                f"a < 0 {word} )", f"( {word} a < 0)", f"(a < 0 {word}) b < 0", f"x {word} y")
        self.assert_refused("a < 0 and or b < 0", "a < 0 or and b < 0", "a < 0 b < 0", "a < 0, b < 0")

    def test_brackets_wrong(self):
        self.assert_refused("(", ")", "()", "( )", "(a < 0", "a < 0)", "((a < 0)", "(a < 0))", ")a < 0(",
                            "(a < 0)(b < 0)", "(a < 0) b < 0", "a < 0 (b < 0)", "(a < 0 and) b < 0", "not (a < 0",
                            "(a < ) 0", "(a) < 0")

    def test_empty(self):
        self.assert_refused("", " ", "     ", " " * 1000)

    def test_a_text_that_goes_on(self):
        for more in ("yes", "x", "1", "x < 0", ")", "(", ":", "not yes", "<", "< 0", "some x: yes", "^2", "/2", "*"):
            self.assert_refused("a < 0 and b < x^2 " + more)
            self.assert_refused("yes " + more)
            self.assert_refused("(yes) " + more)


class Depth(Reading):
    OPEN = {"(": ")", "not ": "", "some x: ": "", "all y: ": ""}

    def test_thirty_of_each(self):
        for begin, end in self.OPEN.items():
            told = read(begin * 30 + "a < 0" + end * 30)
            self.assert_sentence(told)
            self.assertEqual(read(begin * 29 + "a < 0" + end * 29), told if begin == "(" else told[-1])
            self.assert_refused(begin * 31 + "a < 0" + end * 31)
            self.assert_refused(begin * 31 + "yes" + end * 31)

    def test_counted_together(self):
        for begins in itertools.permutations(self.OPEN):
            row = (begins * 8)[:30]
            ends = "".join([self.OPEN[begin] for begin in row])
            wanted = A
            for begin in reversed(row):
                wanted = {"(": lambda part: part, "not ": never, "some x: ": lambda part: some_of("x", part),
                          "all y: ": lambda part: all_of("y", part)}[begin](wanted)
            self.assert_read("".join(row) + "a < 0" + ends, wanted)
            for begin, end in self.OPEN.items():
                self.assert_refused("".join(row) + begin + "a < 0" + end + ends)
                self.assert_refused(begin + "".join(row) + "a < 0" + ends + end)

    def test_side_by_side_is_not_within(self):
        for begin, end in self.OPEN.items():
            unit = "(" + begin * 29 + "a < 0" + end * 29 + ")"
            self.assert_read(" and ".join([unit] * 20), read(unit))
            self.assert_read(" or ".join([unit] * 20), read(unit))
            worse = "(" + begin * 30 + "a < 0" + end * 30 + ")"
            self.assert_refused(unit + " and " + worse, worse + " or " + unit)
        self.assert_read(" and ".join(["not a < 0"] * 40), ("not", A))
        self.assert_read(" and ".join(["(a < 0)"] * 40), A)

    def test_the_reach_counts_for_all_that_follows(self):
        self.assert_read("some x: a < 0 and " + "(" * 29 + "b < 0" + ")" * 29, ("some", "x", ("both", (A, B))))
        self.assert_refused("some x: a < 0 and " + "(" * 30 + "b < 0" + ")" * 30)
        self.assert_read("(some x: a < 0) and " + "(" * 30 + "b < 0" + ")" * 30, ("both", (("some", "x", A), B)))
        self.assert_read("not a < 0 and " + "(" * 30 + "b < 0" + ")" * 30, ("both", (("not", A), B)))

    def test_parts_within_parts_are_not_counted(self):
        text, wanted = "a < 0", A
        for k in range(30):
            text = f"b < 0 or c < 0 and ({text})"
            wanted = either([B, both([C, wanted])])
        self.assert_read(text, wanted)
        self.assert_refused(f"b < 0 or ({text})")

    def test_far_too_many(self):
        for begin, end in self.OPEN.items():
            for count in (300, 40000 // (len(begin) + len(end)) - 10):
                self.assert_refused(begin * count + "yes" + end * count)
                self.assert_refused(begin * count)


class Compares(Reading):
    def test_each_sign(self):
        form = (((), -1), (X, 2), (Y, 3))
        turned = (((), 1), (X, -2), (Y, -3))
        for sign, wanted in (("<", ("less", form)), ("<=", ("most", form)), ("=", ("equal", form)),
                             ("/=", ("unlike", form)), (">=", ("most", turned)), (">", ("less", turned))):
            self.assert_read(f"2*x + 3*y {sign} 1", wanted)
            self.assert_read(f"2*x{sign}1 - 3*y", wanted)
            self.assert_read(f"2*x + 3*y - 1 {sign} 0", wanted)
            self.assert_read(f"0 {sign} 1 - 3*y - 2*x", wanted)

    def test_the_sides_are_not_turned_for_equal_and_unlike(self):
        self.assert_read("1 = x", ("equal", (((), 1), (X, -1))))
        self.assert_read("1 /= x", ("unlike", (((), 1), (X, -1))))
        self.assert_read("x = 1", ("equal", (((), -1), (X, 1))))

    def test_fractions(self):
        self.assert_read("1/2*x < 1/3", ("less", (((), -2), (X, 3))))
        self.assert_read("1/2*x + 2/3*y <= 3/4", ("most", (((), -9), (X, 6), (Y, 8))))
        self.assert_read("x > 5/10", ("less", (((), 1), (X, -2))))
        self.assert_read("1/2*1/3*x = 1/4", ("equal", (((), -3), (X, 2))))
        self.assert_read("1/6*x*y*2/5 /= 7/15*x", ("unlike", ((X, -7), (XY, 1))))
        self.assert_read("4/2*x < 6/3", ("less", (((), -1), (X, 1))))
        self.assert_read("2/4*x < y", ("less", ((X, 1), (Y, -2))))

    def test_fractions_that_come_together(self):
        self.assert_read("1/2*x + 1/3*x + 1/6*x < y", ("less", ((X, 1), (Y, -1))))
        self.assert_read("1/2*x + 1/2*x < 1/3 + 1/3", ("less", (((), -2), (X, 3))))
        self.assert_read("1/7*x - 1/7*x + y < 1/2", ("less", (((), -1), (Y, 2))))

    def test_thirty_figures(self):
        great = 10 ** 30 - 1
        self.assert_read(f"{great}/{great - 1}*x < {great}*y + 1/{great - 2}",
                         ("less", (((), -(great - 1)), (X, great * (great - 2)),
                                   (Y, -great * (great - 1) * (great - 2)))))
        self.assert_read(f"{great}*{great}*x < {great}*{great}*{great}", ("less", (((), -great), (X, 1))))

    def test_made_lean(self):
        self.assert_read("6*x < 4", ("less", (((), -2), (X, 3))))
        self.assert_read("-6*x < 4*y", ("less", ((X, -3), (Y, -2))))
        self.assert_read(f"{THIRTY}*x < {THIRTY}*y", ("less", ((X, 1), (Y, -1))))

    def test_sides_that_cancel_out_in_part(self):
        self.assert_read("x + y < x + 1", ("less", (((), -1), (Y, 1))))
        self.assert_read("2*x > x + y", ("less", ((X, -1), (Y, 1))))
        self.assert_read("x^2 + x*y = y*x + 1", ("equal", (((), -1), (XX, 1))))
        self.assert_read("x - x + y < 0", LOW_Y)

    def test_sides_that_cancel_out_wholly(self):
        for left, right in (("x", "x"), ("x*y", "y*x"), ("x + 1/2", "1/2*x + 1/2 + 1/2*x"), ("0", "0*x")):
            for sign, wanted in (("<", NO), ("<=", YES), ("=", YES), ("/=", NO), (">=", YES), (">", NO)):
                self.assert_read(f"{left} {sign} {right}", wanted)
        for sign, wanted in (("<", YES), ("<=", YES), ("=", NO), ("/=", YES), (">=", NO), (">", NO)):
            self.assert_read(f"x + 1/3 {sign} x + 1/2", wanted)

    def test_without_unknowns(self):
        for one, other in itertools.product(("0", "1", "2", "1/2", "2/4", "1/3", "-1", "-1/2"), repeat=2):
            left, right = Fraction(one), Fraction(other)
            for sign, wanted in (("<", left < right), ("<=", left <= right), ("=", left == right),
                                 ("/=", left != right), (">=", left >= right), (">", left > right)):
                self.assert_read(f"{one} {sign} {other}", YES if wanted else NO)

    def test_order_of_names_and_products(self):
        self.assert_read("y*x + x^2 + a*y + 1 + b*a < 0",
                         ("less", form_of([(XY, 1), (XX, 1), ((("a", 1), ("y", 1)), 1), ((), 1),
                                           ((("a", 1), ("b", 1)), 1)])))
        self.assert_read("b*a*x*a < 0", ("less", (((("a", 2), ("b", 1), ("x", 1)), 1),)))


class BuiltByTwelve(Reading):
    def test_yes_and_no_are_folded(self):
        self.assert_read("yes and a < 0", A)
        self.assert_read("a < 0 and 1 < 2 and b < 0", ("both", (A, B)))
        self.assert_read("a < 0 and no", NO)
        self.assert_read("a < 0 or 1 = 1", YES)
        self.assert_read("no or a < 0 or 1 < 0", A)
        self.assert_read("yes and yes", YES)
        self.assert_read("no or no", NO)
        self.assert_read("some x: 1 < 2", YES)
        self.assert_read("all x: x < x", NO)
        self.assert_read("not x = x", NO)
        self.assert_read("some x: yes and (a < 0 or no)", ("some", "x", A))

    def test_equal_parts(self):
        self.assert_read("a < 0 and a < 0", A)
        self.assert_read("a < 0 or b < 0 or 2*a < 0", ("either", (A, B)))
        self.assert_read("a < 0 and 0 > a and 1/2*a < 0", A)
        self.assert_read("(a < 0 and b < 0) or (1*a < 0 and b < b*0)", ("both", (A, B)))
        self.assert_read("not a < 0 and c < 0 and not a < 0", ("both", (("not", A), C)))

    def test_parts_of_parts_are_not_drawn_up(self):
        self.assert_read("a < 0 and (b < 0 and c < 0) and x < 0", ("both", (A, ("both", (B, C)), LOW_X)))
        self.assert_read("a < 0 or (yes and (b < 0 or c < 0))", ("either", (A, ("either", (B, C)))))


class Time(Reading):
    """Texts of up to forty thousand signs are read in no long time."""

    def test_long_sums(self):
        self.assert_read("x - " * 9000 + "y < 0", read("8998*x + y > 0"))
        self.assert_read("x - x + " * 4500 + "y < 0", LOW_Y)

    def test_long_terms(self):
        self.assert_read("1*" * 15000 + "x < 0", LOW_X)
        row = "*".join([THIRTY] * 600)
        self.assert_read(f"{row}*x < {row}*y", ("less", ((X, 1), (Y, -1))))
        self.assert_read(f"{row}*x < 1", ("less", (((), -1), (X, (10 ** 30 - 1) ** 600))))

    def test_many_bottoms(self):
        terms = [f"1/{10 ** 30 - 1 - k}*x" for k in range(1000)]
        told = read(" + ".join(terms) + " < y")
        self.assert_sentence(told)
        total = sum([Fraction(1, 10 ** 30 - 1 - k) for k in range(1000)])
        self.assertEqual(told, ("less", ((X, total.numerator), (Y, -total.denominator))))

    def test_many_words(self):
        self.assert_read("yes and " * 4900 + "a < 0", A)
        self.assert_read(" " * 39000 + "a < 0", A)
        self.assert_refused("yes or " * 5000)

    def test_forty_compares(self):
        parts = [f"x^9*y^9 + {k}/{k + 1} < {THIRTY}*z" for k in range(40)]
        told = read("some z: " + " and ".join(parts))
        self.assert_sentence(told)
        self.assertEqual(len(told[2][1]), 40)


def blanked(chance, words):
    """The words as a text, with blanks where they must stand, and here and there where they may."""
    text = " " * chance.choice((0, 0, 1, 2))
    for word in words:
        runs = text and word and (text[-1].isalpha() and word[0].isalpha() or text[-1].isdigit() and word[0].isdigit())
        # A blank between keeps < and = apart where they are two words.
        runs = runs or text[-1:] in ("<", ">", "/") and word[:1] == "="
        text += " " * (chance.choice((1, 1, 2)) if runs else chance.choice((0, 0, 1, 2))) + word
    return text + " " * chance.choice((0, 0, 1))


class Grown(Timed):
    """Texts grown by the rules of point 17, with the sentence that each stands for."""

    WORDS = {"<": ("less", 1), "<=": ("most", 1), "=": ("equal", 1), "/=": ("unlike", 1), ">=": ("most", -1),
             ">": ("less", -1)}
    FITS = {"less": (-1,), "most": (-1, 0), "equal": (0,), "unlike": (-1, 1)}

    def grown_term(self, chance):
        words, number, powers = [], Fraction(1), {}
        for k in range(chance.randint(1, 3)):
            if k:
                words.append("*")
            sort = chance.choice(("row", "fraction", "name", "power"))
            if sort in ("row", "fraction"):
                top = chance.choice((0, 1, 2, 6, chance.randint(0, 10 ** 30 - 1)))
                number *= top
                words.append(str(top).zfill(chance.randint(1, 30)))
                if sort == "fraction":
                    bottom = chance.choice((1, 2, 6, chance.randint(1, 10 ** 30 - 1)))
                    number /= bottom
                    words.extend(["/", str(bottom).zfill(chance.randint(1, 30))])
            else:
                name = chance.choice(("x", "y", "xy", "note", "abcdefgh"))
                words.append(name)
                power = chance.randint(1, 3)
                if sort == "power":
                    words.extend(["^", str(power)])
                powers[name] = powers.get(name, 0) + (power if sort == "power" else 1)
        return words, number, tuple(sorted(powers.items()))

    def grown_sum(self, chance, numbers, sign):
        words = ["-"] if chance.random() < 0.3 else []
        for k in range(chance.randint(1, 3)):
            if k:
                words.append(chance.choice("+-"))
            turned = -sign if words and words[-1] == "-" else sign
            more, number, product = self.grown_term(chance)
            words.extend(more)
            numbers[product] = numbers.get(product, 0) + turned * number
        return words

    def grown_compare(self, chance):
        sign = chance.choice(sorted(self.WORDS))
        word, side = self.WORDS[sign]
        numbers = {}
        words = self.grown_sum(chance, numbers, side) + [sign] + self.grown_sum(chance, numbers, -side)
        pairs = [(product, number) for product, number in sorted(numbers.items()) if number]
        if not any([product for product, number in pairs]):
            total = sum([number for product, number in pairs])
            return words, YES if (total > 0) - (total < 0) in self.FITS[word] else NO
        multiple = math.lcm(*[number.denominator for product, number in pairs])
        whole = [(product, int(number * multiple)) for product, number in pairs]
        divisor = math.gcd(*[number for product, number in whole])
        return words, (word, tuple([(product, number // divisor) for product, number in whole]))

    def grown_unit(self, chance, depth, last):
        sorts = ["compare", "compare", "yes", "no"]
        if depth:
            sorts += ["not", "bracket"] * 2 + (["some", "all"] * 2 if last else [])
        sort = chance.choice(sorts)
        if sort in ("yes", "no"):
            return [sort], (sort,)
        if sort == "not":
            words, part = self.grown_unit(chance, depth - 1, last)
            return ["not"] + words, never(part)
        if sort == "bracket":
            words, part = self.grown_sentence(chance, depth - 1)
            return ["("] + words + [")"], part
        if sort in ("some", "all"):
            name = chance.choice(("x", "y", "somex"))
            words, part = self.grown_sentence(chance, depth - 1)
            return [sort, name, ":"] + words, (some_of if sort == "some" else all_of)(name, part)
        return self.grown_compare(chance)

    def grown_sentence(self, chance, depth):
        words, parts = [], []
        count = chance.choice((1, 1, 2, 3))
        for k in range(count):
            units = []
            inner = chance.choice((1, 1, 2, 3))
            for j in range(inner):
                # A unit that begins with some or all takes all that follows: it can only be the last one.
                more, part = self.grown_unit(chance, depth, k == count - 1 and j == inner - 1)
                words.extend((["and"] if j else ["or"] if k else []) + more)
                units.append(part)
            parts.append(both(units))
        return words, either(parts)

    def test_grown(self):
        chance = random.Random(17)
        for k in range(1500):
            words, wanted = self.grown_sentence(chance, chance.randint(0, 5))
            text = blanked(chance, words)
            told = read(text)
            self.assertEqual(told, wanted, text)
            self.assert_sentence(told)
            self.assertEqual(read(" ".join(words)), wanted)


class Rules:
    """Point 17 straight as it stands: each rule tells all places at which what begins at a place may end."""

    def __init__(self, words):
        self.words = words + [""] * 3

    def all_parted(self, rule, signs, place):
        reached, rest = set(), set(rule(place))
        while rest:
            end = rest.pop()
            if end not in reached:
                reached.add(end)
                if self.words[end] in signs:
                    rest |= rule(end + 1)
        return reached

    def sentence(self, place):
        return self.all_parted(self.ands, ("or",), place)

    def ands(self, place):
        return self.all_parted(self.unit, ("and",), place)

    def unit(self, place):
        word = self.words[place]
        if word in ("yes", "no"):
            return {place + 1}
        if word == "not":
            return self.unit(place + 1)
        if word == "(":
            return {end + 1 for end in self.sentence(place + 1) if self.words[end] == ")"}
        if word in ("some", "all"):
            named = self.is_name(self.words[place + 1]) and self.words[place + 2] == ":"
            return self.sentence(place + 3) if named else set()
        ends = set()
        for end in self.sum(place):
            if self.words[end] in ("<", "<=", "=", "/=", ">=", ">"):
                ends |= self.sum(end + 1)
        return ends

    def sum(self, place):
        return self.all_parted(self.term, ("+", "-"), place + (self.words[place] == "-"))

    def term(self, place):
        return self.all_parted(self.factor, ("*",), place)

    def factor(self, place):
        word, sign, more = self.words[place:place + 3]
        if self.is_name(word):
            return {place + 1, place + 3} if sign == "^" and re.fullmatch("[1-9]", more) else {place + 1}
        if not re.fullmatch("[0-9]{1,30}", word):
            return set()
        fraction = sign == "/" and re.fullmatch("[0-9]{1,30}", more) and int(more)
        return {place + 1, place + 3} if fraction else {place + 1}

    def is_name(self, word):
        return re.fullmatch("[a-z]{1,8}", word) is not None and word not in RESERVED


class AnyWords(Reading):
    """Rows of words, most of them wrong in one place, are read just where point 17 lets them in."""

    EACH = RESERVED + tuple("+-*/^():<=>") + ("<=", "/=", ">=", "x", "y", "abcdefghi", "0", "1", "2", "10", "9" * 31)

    def changed(self, chance, words):
        words = list(words)
        for k in range(chance.choice((1, 1, 2))):
            place = chance.randrange(len(words) + 1)
            change = chance.choice(("in", "out", "other", "swap"))
            if change == "in":
                words.insert(place, chance.choice(self.EACH))
            elif words and change == "out":
                words.pop(place % len(words))
            elif words and change == "other":
                words[place % len(words)] = chance.choice(self.EACH)
            elif words:
                other = chance.randrange(len(words))
                place = place % len(words)
                words[place], words[other] = words[other], words[place]
        return words

    def assert_as_the_rules_say(self, words, text):
        if len(words) in Rules(words).sentence(0):
            self.assert_sentence(read(text))
            return True
        self.assert_refused(text)
        return False

    def test_changed(self):
        chance = random.Random(18)
        told = []
        for k in range(3000):
            words, wanted = Grown().grown_sentence(chance, chance.randint(0, 3))
            words = self.changed(chance, words)
            told.append(self.assert_as_the_rules_say(words, blanked(chance, words)))
        self.assertGreater(told.count(True), 200)
        self.assertGreater(told.count(False), 200)

    def test_short(self):
        each = ("some", "and", "not", "yes", "-", "*", "/", "^", "(", ")", ":", "<", "x", "2")
        for count in range(5):
            for words in itertools.product(each, repeat=count):
                self.assert_as_the_rules_say(list(words), " ".join(words))


if __name__ == "__main__":
    unittest.main()
