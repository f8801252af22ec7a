"""The whole: points 1 to 3, over all modules together."""

import itertools
import unittest

from helper import GREAT, Timed, deepest, grid, is_true, point_told, true_there
from realsay import errors
from realsay.forms import names_of
from realsay.holding import holds, opposite, plain
from realsay.line import borders, line, table
from realsay.many import freed, paper, truth
from realsay.points import Far
from realsay.rules import allowed
from realsay.sentences import all_of, compares_of, free_in, never, some_of
from realsay.settling import settle
from realsay.sheet import Sheet
from realsay.shows import shown
from realsay.taking import points_of, put_to, without
from realsay.texts import read
from realsay.values import sign_at

CLOSED = (
    "some x: x^2 = 2 and x > 0", "all x: x^2 - x + 1 > 0", "all a: some x: x^2 = a or a < 0", "all a: some x: x^2 = a",
    "some y: all x: x^2 + 2*x > y", "all x: some y: x < y and y < x + 1", "some x: all y: y < x", "some x: x^2 < 0",
    "all x: all y: some z: x + z = y and 2*z /= y", "some x: x^2 = 3 and (all z: z < x or 5*z > 8)",
)
OPEN = (
    "some x: x > a and x < b", "some x: x^2 + b*x + c < 0", "all x: x^2 + b*x + c > 0 or x < 0", "some x: a*x = b",
    "all y: some x: x^2 = y + a or y < b", "not (some x: x > a and (all z: z < x or z > b))",
    "some x: x^2 = a and x < b", "a < b and not (all x: a*x < b)",
    "some x: some y: x + y = a and x - y = b and x > 1", "x < 1 or not y = 2",
)
REFUSALS = (errors.Lacks, errors.Stranger, errors.Twice, errors.Unbound, errors.Beyond, errors.NoText, errors.NoPaper,
            errors.Clash, errors.NoFact)


class ThePromise(Timed):
    def test_texts_read_freed_shown_and_read_again(self):
        for text in CLOSED + OPEN:
            told = freed(read(text))
            self.assertEqual(read(shown(told)), told, text)
            self.assertEqual(read(shown(read(text))), read(text), text)
            self.assertEqual(freed(read(shown(told))), told, text)

    def test_what_is_freed_holds_at_just_the_same_points(self):
        for text in OPEN:
            S = read(text)
            told = freed(S)
            for at in grid(free_in(S), 25):
                self.assertIs(holds(told, point_told(at)), is_true(S, at), (text, at))

    def test_truth_and_paper_agree(self):
        for text in CLOSED:
            S = read(text)
            L, answer = paper(S)
            self.assertIs(truth(S), (answer[0] == "yes") == (S[0] == "some"), text)
            self.assertIs(truth(S), is_true(S, {}), text)
            self.assertIs(truth(never(S)), not truth(S), text)
            self.assertEqual(settle(L, S[1])[0], answer[0])

    def test_a_paper_shows_it(self):
        for text in CLOSED:
            S = read(text)
            L, answer = paper(S)
            forms = [part[1] for part in compares_of(L)]
            if answer[0] == "yes":
                self.assertTrue(holds(L, {S[1]: answer[1]}))
            else:
                # Between its numbers no compare changes: its odd places are all borders.
                self.assertEqual(len(answer[1]), 2 * len(borders(forms, S[1])) + 1)
                self.assertFalse(any([holds(L, {S[1]: number}) for number in answer[1]]))

    def test_truth_freed_and_a_sheet_agree(self):
        for text in CLOSED:
            self.assertEqual(Sheet().ask(text), "yes" if truth(read(text)) else "no")
            self.assertEqual(freed(read(text)), ("yes",) if truth(read(text)) else ("no",))

    def test_words_turned_about(self):
        for text in CLOSED:
            S = read(text)
            turned = all_of if S[0] == "some" else some_of
            self.assertIs(truth(turned(S[1], never(S[2]))), not truth(S), text)


class HandedInAgain(Timed):
    def test_all_that_is_told(self):
        for text in OPEN:
            told = freed(read(text))
            for asked in (plain, opposite, freed, allowed, shown, compares_of):
                asked(told)
            for name in free_in(told):
                for part in compares_of(told):
                    Far().into(part[0], part[1], name)
            self.assertLessEqual(deepest(told), 200)
            self.assertEqual(plain(told), told)

    def test_taken_out_one_behind_the_other(self):
        S = read("x + y < 3*z and x > 2*y and z < 1 and x + z > w")
        for names in itertools.permutations("xyzw"):
            told = S
            for name in names:
                for point in points_of(told, name):
                    put = put_to(told, point, name)
                    self.assertNotIn(name, free_in(put))
                told = without(told, name)
                self.assertLessEqual(deepest(told), 200)
            self.assertEqual(told, ("yes",))

    def test_numbers_told(self):
        forms = [part[1] for part in compares_of(read("x^2 = 2 and x^2 + x = 3 and 2*x = 1"))]
        for number in line(forms, "x"):
            self.assertEqual([sign_at(F, {"x": number}) for F in forms],
                             list(dict(table(forms, "x"))[number]))

    def test_nothing_handed_in_is_changed(self):
        forms = [part[1] for part in compares_of(read("x^2 = 2 and 2*x = 1"))]
        before = list(forms)
        line(forms, "x"), table(forms, "x"), borders(forms, "x")
        self.assertEqual(forms, before)
        point = {"x": (1, 0, 0, 1), "y": (0, 1, 2, 1)}
        holds(read("x < y"), point)
        self.assertEqual(point, {"x": (1, 0, 0, 1), "y": (0, 1, 2, 1)})

    def test_asked_again_it_is_told_again(self):
        for text in CLOSED + OPEN:
            self.assertEqual(freed(read(text)), freed(read(text)))
        for text in CLOSED:
            self.assertEqual(paper(read(text)), paper(read(text)))


class GreatNumbers(Timed):
    def test_time_does_not_grow_with_the_numbers(self):
        self.assertIs(truth(read(f"all y: some x: {GREAT}*x^2 + {GREAT - 1}*x > {GREAT - 2}*y")), True)
        self.assertIs(truth(read(f"some y: all x: x^2 - {GREAT}*x > y and y > -{GREAT}")), False)
        self.assertEqual(paper(read(f"some x: x^2 + {GREAT}*x = 1 and x > 0"))[1][0], "yes")
        told = freed(read(f"some x: {GREAT}*x^2 + b*x + {GREAT - 1} < 0"))
        for b in (2 * GREAT, 2 * GREAT - 1, 2 * GREAT - 2, 0, -2 * GREAT):
            self.assertIs(true_there(told, point_told({"b": b})), b * b > 4 * GREAT * (GREAT - 1), b)

    def test_shown_and_read(self):
        for text in (f"some x: {GREAT}*x > a", f"some x: x > {GREAT}*a and {GREAT - 1}*x < b"):
            S = read(text)
            self.assertEqual(read(shown(S)), S)


class Refusals(Timed):
    def asked(self):
        """Each refusal with something that is refused so."""
        made = Sheet()
        made.tell("x < 1")
        return ((errors.Lacks, holds, read("x < 1"), {}), (errors.Stranger, settle, read("y < 1"), "x"),
                (errors.Twice, truth, read("some x: some x: x < 1")), (errors.Unbound, truth, read("x < 1")),
                (errors.Beyond, freed, read("some x: x^3 < 1")), (errors.Beyond, without, read("x^3 < 1"), "x"),
                (errors.Beyond, borders, [read("x^3 < 1")[1]], "x"), (errors.NoText, read, "x"),
                (errors.NoPaper, paper, ("yes",)), (errors.Clash, made.tell, "x > 1"), (errors.NoFact, made.forget, 1),
                (errors.NoText, made.ask, ""), (errors.Twice, made.ask, "some x: x < 1"))

    def test_each_is_taken_by_its_own_class_and_those_above_alone(self):
        self.assertEqual(set([row[0] for row in self.asked()]), set(REFUSALS))
        for kind, asked, *arguments in self.asked():
            for taken in (kind, errors.RealError, ValueError):
                with self.assertRaises(taken):
                    asked(*arguments)
            for other in REFUSALS:
                if other is not kind:
                    try:
                        asked(*arguments)
                    except other:
                        self.fail((kind, other))
                    except errors.RealError:
                        pass

    def test_names_told_stand_in_the_forms_told(self):
        for text in ("some x: x^3 < a", "some x: b*x^2 < 1", "some x: some y: x*y < 1"):
            with self.assertRaises(errors.Beyond) as caught:
                allowed(read(text))
            self.assertIn(caught.exception.name, names_of(caught.exception.form))


if __name__ == "__main__":
    unittest.main()
