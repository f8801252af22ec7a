"""The error classes, as the interface tells them."""

import copy
import unittest

from realsay import errors

NAMED = (errors.Lacks, errors.Stranger, errors.Twice, errors.Unbound)
BARE = (errors.NoText, errors.NoPaper, errors.Clash, errors.NoFact)
ALL = NAMED + (errors.Beyond,) + BARE
FORM = (((("x", 3),), 2),)


class WhatStandsUnderWhat(unittest.TestCase):
    def test_real_error_is_a_value_error(self):
        self.assertEqual(errors.RealError.__bases__, (ValueError,))

    def test_each_stands_straight_under_real_error(self):
        for kind in ALL:
            self.assertEqual(kind.__bases__, (errors.RealError,), kind)

    def test_none_stands_under_another(self):
        for one in ALL:
            for other in ALL:
                self.assertEqual(issubclass(one, other), one is other, (one, other))

    def test_names(self):
        names = ["Lacks", "Stranger", "Twice", "Unbound", "Beyond", "NoText", "NoPaper", "Clash", "NoFact"]
        self.assertEqual([kind.__name__ for kind in ALL], names)


class Fields(unittest.TestCase):
    def test_name_is_set_when_made(self):
        for kind in NAMED:
            self.assertEqual(kind("abcdefgh").name, "abcdefgh")

    def test_beyond_has_name_and_form(self):
        made = errors.Beyond("x", FORM)
        self.assertEqual(made.name, "x")
        self.assertEqual(made.form, FORM)

    def test_each_object_has_its_own(self):
        for kind in NAMED:
            one = kind("x")
            other = kind("y")
            self.assertEqual((one.name, other.name), ("x", "y"))
        one = errors.Beyond("x", FORM)
        other = errors.Beyond("y", ())
        self.assertEqual((one.name, one.form, other.name, other.form), ("x", FORM, "y", ()))

    def test_no_name_is_no_error(self):
        for kind in NAMED + (errors.Beyond,):
            self.assertRaises(TypeError, kind)

    def test_a_copy_keeps_the_fields(self):
        for kind in NAMED:
            self.assertEqual(copy.copy(kind("x")).name, "x")
        again = copy.copy(errors.Beyond("x", FORM))
        self.assertEqual((again.name, again.form), ("x", FORM))


class Raised(unittest.TestCase):
    def test_taken_by_its_own_name_and_by_the_common_one(self):
        made = [kind("x") for kind in NAMED] + [errors.Beyond("x", FORM)] + [kind() for kind in BARE]
        for error in made:
            for kind in (type(error), errors.RealError, ValueError):
                with self.assertRaises(kind) as caught:
                    raise error
                self.assertIs(caught.exception, error)


if __name__ == "__main__":
    unittest.main()
