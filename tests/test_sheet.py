"""A sheet of known sentences: points 31 and 32, and of point 3 what touches them."""

import inspect
import itertools
import random
import unittest

from helper import Timed, grid, is_true
from realsay import errors, sheet
from realsay.many import truth
from realsay.sentences import both, free_in, never, some_of
from realsay.sheet import Sheet
from realsay.shows import shown
from realsay.texts import read

NO_TEXTS = ("", "x <", "x", "x < y <", "some: x < 1", "x < 1 and", "(x < 1", "X < 1", "x << 1")


def told(*texts):
    """A sheet that has been told the texts."""
    made = Sheet()
    for text in texts:
        made.tell(text)
    return made


class Sheets(Timed):
    def assert_answers(self, asked, **wanted):
        """The sheet answers these texts, listed by their answers, so."""
        for answer, texts in wanted.items():
            for text in texts:
                self.assertEqual(asked.ask(text), answer, text)

    def assert_unchanged(self, asked, kind, fields, *call):
        """What is asked is refused so, and the sheet knows and answers the same as before."""
        questions = ("x < 1", "x > 0", "y = 2", "x = y", "some q: q^2 = 2", "x < y")
        known = asked.known()
        answers = [self.answer(asked, text) for text in questions]
        self.assert_refused(kind, fields, *call)
        self.assertEqual(asked.known(), known)
        self.assertEqual([self.answer(asked, text) for text in questions], answers)

    def answer(self, asked, text):
        try:
            return asked.ask(text)
        except errors.RealError as refused:
            return type(refused)


class Interface(unittest.TestCase):
    def test_arguments(self):
        self.assertEqual(list(inspect.signature(sheet.Sheet).parameters), [])
        for asked, names in ((Sheet.tell, ["self", "text"]), (Sheet.ask, ["self", "text"]),
                             (Sheet.forget, ["self", "place"]), (Sheet.known, ["self"])):
            self.assertEqual(list(inspect.signature(asked).parameters), names)


class Telling(Sheets):
    def test_a_new_sheet_knows_none(self):
        self.assertEqual(Sheet().known(), ())

    def test_the_count_is_told(self):
        made = Sheet()
        texts = ("x < 3", "y < x", "x < 3", "yes", "some q: q > y")
        for count, text in enumerate(texts, 1):
            answer = made.tell(text)
            self.assertIs(type(answer), int)
            self.assertEqual(answer, count)
        self.assertEqual(made.known(), tuple([read(text) for text in texts]))

    def test_clash(self):
        for first, second in (("x < 1", "x > 1"), ("x = y", "x < y"), ("x^2 = 2", "x > 2"), ("x < 1", "no"),
                              ("all q: q^2 > x", "some p: p^2 = x"), ("x > 3 or x < 1", "x = 2"),
                              ("x < y and y < z", "z < x"), ("x + y = 3", "2*x + 2*y = 7")):
            for one, other in ((first, second), (second, first)):
                made = Sheet()
                if read(one) != ("no",):
                    made.tell(one)
                    self.assert_unchanged(made, errors.Clash, {}, made.tell, other)
                    self.assertEqual(made.known(), (read(one),))

    def test_one_that_holds_nowhere_clashes_with_none(self):
        made = Sheet()
        for text in ("no", "x^2 < 0", "x < 1 and x > 2", "all x: x > 0", "some x: x^2 = -1"):
            self.assert_unchanged(made, errors.Clash, {}, made.tell, text)

    def test_three_of_which_each_two_go_together(self):
        made = told("x < y", "y < z")
        self.assert_unchanged(made, errors.Clash, {}, made.tell, "z < x")
        self.assertEqual(made.tell("z > x"), 3)

    def test_names_that_have_nothing_to_do_with_one_another(self):
        made = told("x < y", "a = 1", "z < w", "w < v")
        for text in ("v < z", "v < z and b = 1", "a^2 < 0", "y < x", "u < 1 and u > 2 and c < d"):
            self.assert_unchanged(made, errors.Clash, {}, made.tell, text)
        self.assert_answers(made, yes=("z < v", "x < y or v < z"), no=("v < z", "x < y and v < z"),
                            open=("x < a", "z < a and v > a"))

    def test_at_one_point_alone(self):
        made = told("x >= 1", "x <= 1")
        self.assert_answers(made, yes=("x = 1",), no=("x /= 1",))
        made = told("x^2 = 2", "x > 0")
        self.assert_answers(made, yes=("5*x > 7", "2*x < 3"), no=("x = 1",), open=("y = x",))

    def test_the_names_are_the_same_in_all(self):
        made = told("x = 3", "y = x + 1")
        self.assert_answers(made, yes=("y = 4", "x + y = 7"), no=("y = 3",), open=("z = 4",))


class Asking(Sheets):
    def test_where_nothing_is_known(self):
        self.assert_answers(
            Sheet(), yes=("yes", "x = x", "x^2 >= 0", "all q: some p: p > q", "x < y or x >= y", "some q: q > x"),
            no=("no", "x^2 < 0", "some q: q^2 < 0", "x < y and y < x", "all q: q < x"),
            open=("x < 1", "x = y", "x^2 = 2", "all q: q^2 > x"))

    def test_three_answers(self):
        made = told("x < y", "y < z", "z < 10")
        self.assert_answers(made, yes=("x < z", "x < 10", "x + y < 20", "x /= z", "some q: x < q and q < y"),
                            no=("x = z", "z <= x", "x >= 10", "all q: q < x or q > z"),
                            open=("x < 0", "y = 0", "x + z = 2*y", "w < x"))

    def test_asking_changes_nothing(self):
        made = told("x < 1")
        for text in ("x < 2", "x > 2", "x = 0", "yes", "no"):
            made.ask(text)
            self.assertEqual(made.known(), (read("x < 1"),))

    def test_what_is_known_is_yes_and_its_opposite_no(self):
        for text in ("x < 1", "x < 1 and y = x", "x^2 = 2 or x > 5", "some q: q^2 = x", "not (all q: q^2 > x)", "yes"):
            self.assert_answers(told(text), yes=(text,), no=(f"not ({text})",))

    def test_with_words(self):
        made = told("some q: q^2 + x = 0", "all q: q^2 + q + 1 > x or q > 0")
        self.assert_answers(made, yes=("x <= 0",), no=("x > 0",), open=("x < 0", "some q: q^2 + 4 + x = 0"))
        made = told("all q: q^2 + x > 0 or q < 1 and q > -1")
        self.assert_answers(made, yes=("x > -1", "x >= -1"), no=("x = -1",), open=("x > 0",))

    def test_held_against_points(self):
        chance = random.Random(31)
        texts = ("x < y", "x + y <= 2", "y >= 0", "x > -2", "x /= y", "x = 1/2 or x = -1", "x - y > -2",
                 "2*x < 3 or y < 1", "some q: q > x and q < y", "x^2 <= 2", "x^2 = y or x < 0")
        for k in range(40):
            made, known = Sheet(), []
            for text in chance.sample(texts, 4):
                holding = [at for at in grid("xy", 100) if all([is_true(S, at) for S in known + [read(text)]])]
                try:
                    made.tell(text)
                    known.append(read(text))
                except errors.Clash:
                    self.assertEqual(holding, [])
                except errors.Beyond:
                    pass
            holding = [at for at in grid("xy", 100) if all([is_true(S, at) for S in known])]
            for text in texts:
                found = set([is_true(read(text), at) for at in holding])
                answer = self.answer(made, text)
                self.assertIn(answer, ("yes", "no", "open", errors.Beyond))
                if answer == "yes":
                    self.assertNotIn(False, found, (known, text))
                if answer == "no":
                    self.assertNotIn(True, found, (known, text))
                if answer in ("yes", "no", "open"):
                    self.assertEqual(answer, self.by_truth(known, read(text)))

    def by_truth(self, known, S):
        if not self.together(known + [never(S)]):
            return "yes"
        return "open" if self.together(known + [S]) else "no"

    def together(self, sentences):
        S = both(sentences)
        for name in reversed(free_in(S)):
            S = some_of(name, S)
        return truth(S)

    def test_thirty_figures(self):
        great = 10 ** 30 - 1
        made = told(f"{great}*x < {great - 1}", f"x > 1 - 1/{10 ** 29}")
        self.assert_answers(made, yes=("x < 1", f"{great}*x > {great - 11}"), no=("x = 1",),
                            open=(f"{great}*x > {great - 5}",))


class Refusing(Sheets):
    CUBE = {"name": "x", "form": read("x^3 < 1")[1]}

    def assert_both_refused(self, made, kind, fields, text):
        self.assert_unchanged(made, kind, fields, made.tell, text)
        self.assert_unchanged(made, kind, fields, made.ask, text)

    def test_no_text(self):
        for made in (Sheet(), told("x < 1", "y = x")):
            for text in NO_TEXTS:
                self.assert_both_refused(made, errors.NoText, {}, text)

    def test_twice(self):
        for made in (Sheet(), told("y < 1", "z = y")):
            self.assert_both_refused(made, errors.Twice, {"name": "x"}, "(some x: x < 1) and x < 1")
            self.assert_both_refused(made, errors.Twice, {"name": "x"}, "some x: all x: x < 1")

    def test_beyond(self):
        for made in (Sheet(), told("y < 1", "z = y")):
            self.assert_both_refused(made, errors.Beyond, self.CUBE, "x^3 < 1")
            self.assert_both_refused(made, errors.Beyond, self.CUBE, "some x: x^3 < 1")
        self.assert_both_refused(Sheet(), errors.Beyond, {"name": "x", "form": read("x*y < 1")[1]}, "x*y < 1")
        self.assert_both_refused(Sheet(), errors.Beyond, {"name": "y", "form": read("y^2 < x^2")[1]}, "y^2 < x^2")
        self.assert_both_refused(Sheet(), errors.Beyond, {"name": "z", "form": read("z^2 < x + y")[1]}, "z^2 < x + y")
        made = Sheet()
        self.assertEqual(made.tell("y^2 < x"), 1)

    def test_twice_goes_ahead_of_beyond_and_no_text_of_both(self):
        made = told("y < 1")
        self.assert_both_refused(made, errors.Twice, {"name": "x"}, "x^3 < 1 and (some x: x < 1)")
        self.assert_both_refused(made, errors.NoText, {}, "x^3 < 1 and (some x: x < 1) and")

    def test_clash_goes_behind(self):
        made = told("y < 1")
        self.assert_unchanged(made, errors.Twice, {"name": "x"}, made.tell, "y > 1 and (some x: x < 1) and x < 1")
        self.assert_unchanged(made, errors.Beyond, self.CUBE, made.tell, "y > 1 and x^3 < 1")
        self.assert_unchanged(made, errors.Clash, {}, made.tell, "y > 1 and x^2 < 1")

    def test_a_name_bound_in_the_text_and_free_in_a_known_one(self):
        made = told("x < 1")
        self.assert_both_refused(made, errors.Twice, {"name": "x"}, "some x: x > 3")
        self.assert_both_refused(made, errors.Twice, {"name": "x"}, "y < 1 and (all x: x > y)")
        self.assertEqual(made.ask("some w: w > 3"), "yes")
        made = told("some q: q > x")
        self.assert_both_refused(made, errors.Twice, {"name": "q"}, "q < 1")
        self.assert_both_refused(made, errors.Twice, {"name": "x"}, "some x: x > 3")
        self.assertEqual(made.tell("some q: q < x"), 2)

    def test_beyond_by_what_is_known_alone(self):
        # A bent word of the text comes to stand in the reach of two words, for two names are known.
        made = told("x < 1", "y < 2")
        form = read("q^2 = x")[1]
        self.assert_both_refused(made, errors.Beyond, {"name": "q", "form": form}, "some q: q^2 = x")
        self.assertEqual(told("x < 1").ask("some q: q^2 = x"), "open")
        form = read("q^2 < 1")[1]
        self.assert_both_refused(made, errors.Beyond, {"name": "q", "form": form}, "all q: q^2 < 1 or q > 0")
        self.assert_both_refused(told("x^2 < 2"), errors.Beyond, {"name": "q", "form": form}, "some q: q^2 < 1")
        self.assertEqual(told("x < 2").ask("some q: q^2 < 1"), "yes")
        # A name of a known sentence, free in it, is bound beside the text's own word.
        form = read("q*x < 1")[1]
        self.assert_both_refused(told("x < 2"), errors.Beyond, {"name": "x", "form": form}, "some q: q*x < 1")
        # A name of the text is beside one that only a known sentence has bound, or comes behind a bent one.
        made = told("x^2 < 2")
        self.assert_both_refused(made, errors.Beyond, {"name": "y", "form": read("y^2 = 2")[1]}, "y^2 = 2")
        self.assertEqual(Sheet().ask("y^2 = 2"), "open")
        made = told("a < 1", "b < a")
        self.assert_both_refused(made, errors.Beyond, {"name": "c", "form": read("c^2 < 1")[1]}, "c^2 < 1")
        self.assertEqual(told("a < 1").tell("c^2 < 1"), 2)

    def test_what_was_refused_by_what_is_known_is_taken_once_that_is_forgotten(self):
        made = told("x < 1")
        self.assert_refused(errors.Twice, {"name": "x"}, made.tell, "some x: x > 3")
        made.forget(0)
        self.assertEqual(made.tell("some x: x > 3"), 1)
        self.assert_refused(errors.Twice, {"name": "x"}, made.ask, "x < 1")


class Forgetting(Sheets):
    TEXTS = ("x < 5", "y = x", "z > y", "x > 1")

    def test_each_place(self):
        for place in range(4):
            made = told(*self.TEXTS)
            self.assertIsNone(made.forget(place))
            wanted = [read(text) for k, text in enumerate(self.TEXTS) if k != place]
            self.assertEqual(made.known(), tuple(wanted))

    def test_what_is_forgotten_is_not_known(self):
        made = told(*self.TEXTS)
        self.assertEqual(made.ask("z > 1"), "yes")
        made.forget(1)
        self.assertEqual(made.ask("z > 1"), "open")
        self.assertEqual(made.tell("x = y + 9"), 4)
        self.assertEqual(made.known()[-1], read("x = y + 9"))

    def test_all_of_them(self):
        made = told(*self.TEXTS)
        for count in (3, 2, 1, 0):
            made.forget(0)
            self.assertEqual(len(made.known()), count)
        self.assertEqual(made.ask("x < 5"), "open")

    def test_one_of_two_equal_ones(self):
        made = told("x < 5", "y < 1", "x < 5")
        made.forget(2)
        self.assertEqual(made.known(), (read("x < 5"), read("y < 1")))
        made = told("x < 5", "y < 1", "x < 5")
        made.forget(0)
        self.assertEqual(made.known(), (read("y < 1"), read("x < 5")))

    def test_no_such_place(self):
        for count in range(4):
            made = told(*self.TEXTS[:count])
            for place in (-1, -count, count, count + 1, -count - 1, 10 ** 30, -10 ** 30):
                if not 0 <= place < count:
                    self.assert_unchanged(made, errors.NoFact, {}, made.forget, place)


class Known(Sheets):
    def test_a_tuple_that_a_later_tell_does_not_change(self):
        made = told("x < 5")
        before = made.known()
        self.assertIs(type(before), tuple)
        made.tell("x > 1")
        self.assertEqual(before, (read("x < 5"),))
        made.forget(0)
        self.assertEqual(before, (read("x < 5"),))
        self.assertEqual(made.known(), (read("x > 1"),))

    def test_two_sheets_know_nothing_of_one_another(self):
        one, other = Sheet(), Sheet()
        one.tell("x < 1")
        self.assertEqual(other.known(), ())
        other.tell("x > 1")
        self.assertEqual((one.ask("x > 1"), other.ask("x > 1")), ("no", "yes"))
        one.forget(0)
        self.assertEqual(other.known(), (read("x > 1"),))

    def test_what_is_known_is_shown_and_told_to_another_sheet(self):
        questions = ("x < 1", "x > 0", "y = 2", "x = y", "some q: q^2 = 2", "x < y", "y^2 <= 4", "x /= 7")
        for texts in (("x < 5", "y = x", "x > 1"), ("x^2 = 2", "y > 3*x"),
                      ("some q: q + y < x", "not (x < 0 or y = 1)"),
                      ("x < y or y = 1", "x /= 1/2", "all q: q < x or q > y - 1 or x > y")):
            one = told(*texts)
            other = told(*[shown(S) for S in one.known()])
            self.assertEqual(other.known(), one.known())
            for text in questions:
                self.assertEqual(self.answer(one, text), self.answer(other, text), (texts, text))


class HoweverMany(Sheets):
    def test_a_hundred_of_one_name(self):
        made = told(*[f"x < {200 - k} and x > {k}" for k in range(95)])
        self.assertEqual(made.tell("x = 100"), 96)
        self.assert_answers(made, yes=("x > 99",), no=("x < 100",))

    def test_a_row_of_names(self):
        letters = "abcdefghijklmnopqrst"
        made = told(*[f"{one} < {other}" for one, other in zip(letters, letters[1:])])
        self.assert_answers(made, yes=("a < t", "c < m"), no=("t <= a",), open=("t < a + 1",))
        self.assert_refused(errors.Clash, {}, made.tell, "t < a")

    def test_many_names_that_have_nothing_to_do_with_one_another(self):
        names = [one + other for one, other in itertools.product("abcdefgh", repeat=2)]
        made = told(*[f"{name} < {k} and {name} > -{k} or {name} = 7" for k, name in enumerate(names)])
        self.assert_answers(made, yes=("aa = 7", "ab < 8"), no=("aa = 1",), open=("ac > 0",))


if __name__ == "__main__":
    unittest.main()
