"""Points [1] and [2] for all functions: names, arguments left as they were, equal results; the examples."""

import copy
import inspect
import unittest

from fallcuts.builds import lifted, together, upon
from fallcuts.companies import (
    check_company, company_paper, company_worth, is_won, moved, need_company, winning_moves)
from fallcuts.desk import Desk
from fallcuts.drawings import behind, falling, need_drawing, points_of
from fallcuts.errors import (
    BadCompany, BadDrawing, BadLog, BadMove, BadNumber, BadPaper, BadPoint, BadStep, BadText, FallError)
from fallcuts.grounds import standing_on, worths_on
from fallcuts.likes import alike_paper, are_alike, check_alike
from fallcuts.places import fitting_places, places, places_to, with_edge
from fallcuts.plays import best_play, is_play, longest, shortest
from fallcuts.rings import are_tied, blocks, bridges
from fallcuts.steps import all_steps, check_worth, is_step, stepped, worth_paper
from fallcuts.table import Table, under
from fallcuts.texts import company_text, drawing_text, read_company, read_drawing
from fallcuts.worths import carryless, worth, worths_behind
from tests.samples import EXAMPLE, WRONG_COMPANIES, WRONG_DRAWINGS, Refusals

STALK = ((0, 1), (1, 4))
COMPANY = (EXAMPLE, STALK, ((0, 1), (0, 2), (0, 2)))

LISTED = {
    "fallcuts.drawings": [
        (need_drawing, {"thing": EXAMPLE}),
        (points_of, {"drawing": EXAMPLE}),
        (behind, {"drawing": EXAMPLE, "cut": 1}),
        (falling, {"drawing": EXAMPLE, "cut": 0}),
    ],
    "fallcuts.rings": [
        (are_tied, {"drawing": EXAMPLE, "point": 0, "second": 3}),
        (blocks, {"drawing": EXAMPLE}),
        (bridges, {"drawing": EXAMPLE}),
    ],
    "fallcuts.worths": [
        (carryless, {"numbers": (3, 5)}),
        (worth, {"drawing": EXAMPLE}),
        (worths_behind, {"drawing": EXAMPLE}),
    ],
    "fallcuts.steps": [
        (is_step, {"drawing": EXAMPLE, "value": ("join", 1, 2)}),
        (stepped, {"drawing": EXAMPLE, "step": ("join", 1, 2)}),
        (all_steps, {"drawing": EXAMPLE}),
        (worth_paper, {"drawing": EXAMPLE}),
        (check_worth, {"drawing": EXAMPLE, "paper": worth_paper(EXAMPLE)}),
    ],
    "fallcuts.companies": [
        (need_company, {"thing": COMPANY}),
        (moved, {"company": COMPANY, "move": (1, 0)}),
        (company_worth, {"company": COMPANY}),
        (is_won, {"company": COMPANY}),
        (winning_moves, {"company": COMPANY}),
        (company_paper, {"company": COMPANY}),
        (check_company, {"company": COMPANY, "paper": company_paper(COMPANY)}),
    ],
    "fallcuts.likes": [
        (are_alike, {"one": EXAMPLE, "other": STALK}),
        (alike_paper, {"one": EXAMPLE, "other": STALK}),
        (check_alike, {"one": EXAMPLE, "other": STALK, "paper": alike_paper(EXAMPLE, STALK)}),
    ],
    "fallcuts.plays": [
        (is_play, {"company": COMPANY, "value": ((0, 0), (1, 0), (2, 0), (2, 0), (2, 0))}),
        (longest, {"company": COMPANY}),
        (shortest, {"company": COMPANY}),
        (best_play, {"company": COMPANY}),
    ],
    "fallcuts.builds": [
        (together, {"one": EXAMPLE, "other": STALK}),
        (upon, {"one": EXAMPLE, "point": 3, "other": STALK}),
        (lifted, {"drawing": EXAMPLE, "many": 3}),
    ],
    "fallcuts.places": [
        (places, {"drawing": EXAMPLE}),
        (with_edge, {"drawing": EXAMPLE, "place": (1, 4)}),
        (places_to, {"drawing": EXAMPLE, "number": 3}),
        (fitting_places, {"drawing": EXAMPLE, "log": (((STALK,), False), ((EXAMPLE, ((0, 1),)), True))}),
    ],
    "fallcuts.grounds": [
        (standing_on, {"drawing": EXAMPLE, "point": 2}),
        (worths_on, {"drawing": EXAMPLE}),
    ],
    "fallcuts.texts": [
        (drawing_text, {"drawing": EXAMPLE}),
        (company_text, {"company": COMPANY}),
        (read_drawing, {"text": "0-1 1-4"}),
        (read_company, {"text": "0-1 1-4\nnone\n0-0"}),
    ],
    "fallcuts.table": [
        (Table, {"company": COMPANY}),
        (under, {"manager": Table(COMPANY).trial(), "deed": Table.copy}),
    ],
}
CALLS = [row for rows in LISTED.values() for row in rows]


def told_of(kind, attribute, pairs):
    """Return an error, and wrong values, each with what the error is made with."""
    return kind, [(wrong, [(attribute, known)]) for wrong, known in pairs]


def told_as_given(kind, *wrongs):
    return told_of(kind, "given", [(wrong, wrong) for wrong in wrongs])


# For each parameter its error, and wrong values, each with what the error is made with.
ERRORS = {
    "drawing": told_of(BadDrawing, "place", WRONG_DRAWINGS),
    "company": told_of(BadCompany, "number", WRONG_COMPANIES),
    "numbers": told_as_given(BadNumber, True, None, 3, "3", (True,), (3, -5), (1, None)),
    "cut": told_as_given(BadNumber, True, None, -1, 4, "0", (0,)),
    "point": told_as_given(BadPoint, True, None, -1, 4, "0", (0,)),
    "step": told_as_given(BadStep, True, None, "join", (), ("join", 2, 1), ("loop", True)),
    "move": told_as_given(BadMove, True, None, 0, (), (0, 4), (1, True), (3, 0)),
    "paper": told_of(BadPaper, "part", [(wrong, "form") for wrong in (True, None, 0, "lost", (0,) * 101)]),
    "many": told_as_given(BadNumber, True, None, -1, 17, "0", (0,)),
    "place": told_as_given(BadNumber, True, None, 0, (), (1, 0), (4, 4), (0, True), "01"),
    "log": told_of(
        BadLog, "number", [(None, None), ((True,), 0), ((((STALK,), True), (STALK, True)), 1), ((0,) * 13, None)]),
    "text": (BadText, [(wrong, [("line", line), ("word", word)]) for wrong, line, word in [
        (None, None, None), (True, None, None), (5, None, None), (b"0-1", None, None), (EXAMPLE, None, None),
        ("", 0, 0), ("0-1 none", 0, 1), ("none 0-1\n0-1", 0, 1)]]),
}
ERRORS.update({
    "one": ERRORS["drawing"], "other": ERRORS["drawing"], "second": ERRORS["point"], "number": ERRORS["many"]})

# What takes values of any kind, or of which the document tells no error.
FREE = ("value", "manager", "deed")


def error_of(call, name):
    """Return the error of a parameter, and wrong values with what it is made with."""
    if name == "thing":
        name = {need_drawing: "drawing", need_company: "company"}[call]
    return ERRORS[name]


def parameters():
    """Return all calls with each of their parameters that has an error, and what it is."""
    return [(call, named, name, *error_of(call, name)) for call, named in CALLS for name in named if name not in FREE]


# Values that could be changed, none of which is an argument of any of these calls.
CHANGEABLE = [[], [(0, 1), [1, 2]], {"a": [1]}, {1, 2}, ([0, 1],), ((0, 1), [1, [2]]), ((0, 1), {1: [2]})]


class CallsTest(Refusals):

    def test_each_function_is_defined_in_its_file(self):
        for module, rows in LISTED.items():
            for call, _ in rows:
                self.assertEqual(call.__module__, module)

    def test_the_names_of_the_parameters(self):
        for call, named in CALLS:
            self.assertEqual(list(inspect.signature(call).parameters), list(named), call)

    def test_arguments_by_position_and_by_name(self):
        for call, named in CALLS:
            with self.subTest(call=call):
                expected = call(*named.values())
                self.assertEqual(call(**named), expected)
                self.assertEqual(call(**dict(reversed(list(named.items())))), expected)
                first, *others = named
                self.assertEqual(call(named[first], **{name: named[name] for name in others}), expected)

    def told(self, call, named):
        """Return the class of the error that a call raises, and what it was made with."""
        with self.assertRaises(FallError) as caught:
            call(**named)
        return type(caught.exception), list(vars(caught.exception).items())

    def test_wrong_arguments_by_name(self):
        for call, named, name, kind, wrongs in parameters():
            for wrong, known in wrongs:
                with self.subTest(call=call, name=name, wrong=wrong):
                    self.assertEqual(self.told(call, {**named, name: wrong}), (kind, known))

    def test_of_several_wrong_arguments_the_first_one_is_told(self):
        for call, named, name, kind, wrongs in parameters():
            behind_it = list(named)[list(named).index(name) + 1:]
            for others in [[other] for other in behind_it] + [behind_it] * (len(behind_it) > 1):
                for wrong, known in wrongs:
                    for more in (None, True, [], ((0, 1), (2, 3)), (0,) * 101):
                        with self.subTest(call=call, name=name, others=others, wrong=wrong, more=more):
                            wrong_all = {**named, name: wrong, **dict.fromkeys(others, more)}
                            self.assertEqual(self.told(call, wrong_all), (kind, known))

    def test_equal_calls_return_equal_results(self):
        for call, named in CALLS:
            with self.subTest(call=call):
                self.assertEqual(call(**named), call(**named))
                self.assertEqual(call(**named), call(**copy.deepcopy(named)))

    def test_the_same_errors_are_told_again(self):
        for call, named, name, _, wrongs in parameters():
            for wrong, _ in wrongs:
                with self.subTest(call=call, name=name, wrong=wrong):
                    given = {**named, name: wrong}
                    self.assertEqual(self.told(call, given), self.told(call, given))

    def test_a_wrong_call_does_not_change_the_next_one(self):
        for call, named, name, _, _ in parameters():
            with self.subTest(call=call, name=name):
                expected = call(**named)
                self.assertRaises(FallError, call, **{**named, name: [EXAMPLE]})
                self.assertEqual(call(**named), expected)

    def test_arguments_stay_as_they_were(self):
        for call, named in CALLS:
            with self.subTest(call=call):
                # A manager is equal to nothing but itself; what it leaves as it was is tested with the tables.
                kept = copy.deepcopy({name: thing for name, thing in named.items() if name != "manager"})
                call(**named)
                self.assertEqual({name: named[name] for name in kept}, kept)

    def test_wrong_arguments_stay_as_they_were(self):
        for call, named, name, _, _ in parameters():
            for thing in CHANGEABLE:
                with self.subTest(call=call, name=name, thing=thing):
                    kept = copy.deepcopy(thing)
                    self.assertRaises(FallError, call, **{**named, name: thing})
                    self.assertEqual(thing, kept)

    def test_values_of_any_kind_stay_as_they_were(self):
        for thing in CHANGEABLE:
            kept = copy.deepcopy(thing)
            self.assertIs(is_step(EXAMPLE, thing), False)
            self.assertIs(is_play(COMPANY, thing), False)
            self.assertEqual(thing, kept)

    def test_later_changes_of_what_was_passed_have_no_effect(self):
        rows = [0, 1]
        self.refuses(BadDrawing, "place", 0, points_of, (rows,))
        rows.append(2)
        self.assertEqual(points_of(((0, 1),)), (0, 1))


class ExamplesTest(Refusals):

    def test_drawings(self):
        d = ((0, 1), (1, 2), (1, 3), (2, 3))
        self.assertEqual(
            [points_of(d), behind(d, 1), falling(d, 0)],
            [(0, 1, 2, 3), ((0, 1), (1, 3), (2, 3)), (1, 2, 3)])
        self.refuses(BadDrawing, "place", "ground", need_drawing, ((0, 1), (2, 3)))

    def test_rings(self):
        d = ((0, 1), (1, 2), (1, 3), (2, 3))
        self.assertEqual([are_tied(d, 2, 3), blocks(d), bridges(d)], [True, ((0,), (1, 2, 3)), (0,)])

    def test_worths(self):
        d = ((0, 1), (1, 2), (1, 3), (2, 3))
        self.assertEqual([worth(d), worths_behind(d), carryless((3, 5))], [2, (0, 3, 3, 1), 6])

    def test_steps(self):
        d = ((0, 1), (1, 2), (1, 3), (2, 3))
        self.assertEqual(
            [all_steps(d), stepped(d, ("join", 1, 2)), check_worth(d, worth_paper(d))],
            [(("join", 1, 2), ("join", 1, 3), ("join", 2, 3)), ((0, 1), (1, 1), (1, 3), (1, 3)), 2])
        self.tells(BadPaper, "part", 0, check_worth, ((0, 1), (0, 2)), (("loop", 0),))

    def test_companies(self):
        d = ((0, 1), (1, 2), (1, 3), (2, 3))
        self.assertEqual(
            [is_won((d, ((0, 1), (1, 4)))), winning_moves((d,)), company_paper((((0, 1),),))],
            [False, ((0, 0),), ("won", (0, 0), ((),))])

    def test_likes(self):
        d = ((0, 1), (1, 2), (1, 3), (2, 3))
        self.assertEqual(
            [are_alike(d, ((0, 1), (1, 2))), check_alike(((0, 1),), (), ("apart", 0))], [True, "apart"])

    def test_plays(self):
        c = (((0, 1), (0, 2)), ((0, 5), (5, 6)))
        self.assertEqual([longest(c), shortest(c), best_play(c)], [4, 3, ((1, 0), (0, 0), (0, 0))])

    def test_builds(self):
        f = ((0, 1), (0, 2))
        self.assertEqual(
            [lifted(f, 1), together(f, ((0, 1),)), upon(f, 2, ((0, 1),))],
            [((0, 1), (1, 2), (1, 3)), ((0, 1), (0, 2), (0, 3)), ((0, 1), (0, 2), (2, 3))])

    def test_places(self):
        log = (((((0, 1),),), False), ((((0, 5), (5, 6)),), True))
        self.assertEqual(
            [places(((0, 1),)), places_to(((0, 1),), 2), fitting_places(((0, 1),), log)],
            [((0, 0), (0, 1), (0, 2), (1, 1), (1, 2)), ((1, 1), (1, 2)), ((1, 1), (1, 2))])

    def test_grounds(self):
        self.assertEqual(
            [standing_on(((0, 1), (0, 2), (2, 3)), 3), worths_on(((0, 1), (1, 2), (1, 3)))],
            [((0, 2), (1, 3), (2, 3)), ((0, 1), (1, 1), (2, 1), (3, 1))])

    def test_texts(self):
        self.assertEqual(
            [company_text((((0, 1), (1, 2)), ())), read_drawing("0-1 1-1")], ["0-1 1-2\nnone", ((0, 1), (1, 1))])
        with self.assertRaises(BadText) as caught:
            read_drawing("0-1 1-02")
        self.assertEqual((caught.exception.line, caught.exception.word), (0, 1))

    def test_table(self):
        t = Table((((0, 1), (1, 2), (1, 3), (2, 3)),))
        self.assertEqual(
            [t.answer(), t.cut((0, 3)), t.company, t.turn(), t.undo(), len(t)],
            [(0, 0), 1, (((0, 1), (1, 2), (1, 3)),), 1, None, 0])

    def test_desk(self):
        d = Desk("0-1 1-2 1-3 2-3\n0-1 1-2")
        self.assertEqual(
            [d.say("worths"), d.say("won"), d.say("cut 0 3"), d.say("moves"), d.say("show")],
            ["2 2", "lost", "1", "0-1 0-2 1-1", "0-1 1-2 1-3 / 0-1 1-2"])


if __name__ == "__main__":
    unittest.main()
