"""Points [7] and [8]: fallcuts.steps."""

import itertools
import random
import unittest

from fallcuts.drawings import need_drawing
from fallcuts.errors import BadDrawing, BadPaper, BadStep
from fallcuts.steps import all_steps, check_worth, is_step, stepped, worth_paper
from fallcuts.worths import worth
from tests.samples import (
    DRAWINGS, EXAMPLE, NO_STEPS, WRONG_DRAWINGS, Refusals, all_samples, great_drawings, greater_drawings,
    small_drawings, worth_by_cuts)
from tests.words import (
    is_stalk_by_words, points_by_words, steps_by_words, stepped_by_words, verdict_by_words)

# Between them these have, with integers in the place of True and False, many of the STEPS that NO_STEPS has otherwise.
RICH = ((0, 0), (0, 1), (0, 1), (0, 2), (0, 3), (1, 1))
BUSH = ((0, 1), (0, 2), (0, 3))


def drawings_by_words():
    """Return the drawings for which going through all rows of edges is no great matter."""
    return [drawing for drawing in all_samples() + greater_drawings() if len(drawing) < 7]


class IsStepTest(Refusals):

    def test_all_steps_by_the_words(self):
        for drawing in drawings_by_words():
            told = all_steps(drawing)
            self.assertEqual(told, tuple(sorted(steps_by_words(drawing))), drawing)
            self.assertEqual({type(thing) for thing in (told, *told)}, {tuple})

    def test_all_values_of_the_form_by_the_words(self):
        for drawing in [drawing for drawing in small_drawings() if len(drawing) < 3] + [RICH, BUSH, EXAMPLE]:
            right = set(steps_by_words(drawing))
            for word, many in (("join", 2), ("loop", 1), ("fork", 3)):
                for points in itertools.product(range(-1, 6), repeat=many):
                    value = (word, *points)
                    self.assertIs(is_step(drawing, value), value in right, (drawing, value))

    def test_all_steps_of_great_drawings_are_steps(self):
        for drawing in great_drawings():
            told = all_steps(drawing)
            self.assertEqual(told, tuple(sorted(set(told))))
            for step in told:
                self.assertIs(is_step(drawing, step), True)

    def test_stalks_of_great_drawings(self):
        self.assertEqual(all_steps(DRAWINGS["sixteen in a row"]), ())
        self.assertEqual(len(all_steps(DRAWINGS["sixteen on the ground"])), 120)
        self.assertEqual(all_steps(DRAWINGS["sixteen alike"]), (("join", 0, 1),))
        self.assertEqual(all_steps(DRAWINGS["sixteen loops"]), (("loop", 0),))
        joins = tuple(("join", *pair) for pair in itertools.combinations(range(16), 2))
        self.assertEqual(all_steps(DRAWINGS["sixteen in a ring"]), joins)

    def test_values_that_are_no_steps_anywhere(self):
        for step in [("join", 0, 1), ("loop", 1), ("loop", 0), ("fork", 0, 2, 3)]:
            self.assertTrue(is_step(RICH, step))
        self.assertTrue(is_step(BUSH, ("fork", 0, 1, 2)))
        for drawing in [RICH, BUSH, EXAMPLE, ()]:
            for value in NO_STEPS:
                with self.subTest(drawing=drawing, value=value):
                    self.assertIs(is_step(drawing, value), False)
                    self.refuses(BadStep, "given", value, stepped, drawing, value)

    def test_what_is_no_stalk(self):
        for drawing, step in [
            (((0, 1), (0, 2), (0, 2)), ("fork", 0, 1, 2)), (((0, 1), (0, 2), (2, 2)), ("fork", 0, 1, 2)),
            (((0, 1), (0, 2), (2, 3), (2, 4)), ("fork", 0, 1, 2)), (((0, 1), (0, 2), (1, 2)), ("fork", 0, 1, 2)),
            (((0, 1), (1, 2), (1, 3)), ("fork", 1, 0, 2)), (((0, 1), (0, 2), (2, 3), (3, 3)), ("fork", 0, 1, 2)),
            (((0, 1), (1, 2), (2, 3)), ("fork", 2, 1, 3)), (((0, 1), (0, 2), (2, 3)), ("fork", 0, 1, 3)),
            (((0, 1), (0, 2), (2, 3), (2, 3)), ("fork", 0, 1, 2)), (((0, 1), (1, 2), (1, 3)), ("fork", 0, 2, 3)),
            (((0, 1), (0, 2), (2, 3), (3, 4), (3, 5), (4, 5)), ("fork", 0, 1, 2)),
        ]:
            self.assertIs(is_step(drawing, step), False, (drawing, step))
            self.refuses(BadStep, "given", step, stepped, drawing, step)

    def test_points_that_are_not_tied(self):
        for step in [("join", 0, 1), ("join", 0, 3), ("join", 2, 4), ("join", 4, 5), ("join", 2, 1), ("join", 3, 3)]:
            self.assertIs(is_step(EXAMPLE, step), False)

    def test_wrong_drawings(self):
        for wrong, place in WRONG_DRAWINGS:
            for value in [("loop", 0), ("join", 0, 1), None]:
                for call in (is_step, stepped):
                    self.tells(BadDrawing, "place", place, call, wrong, value)
            for call in (all_steps, worth_paper):
                self.tells(BadDrawing, "place", place, call, wrong)


class SteppedTest(Refusals):

    def test_some_steps(self):
        for drawing, step, told in [
            (EXAMPLE, ("join", 1, 2), ((0, 1), (1, 1), (1, 3), (1, 3))),
            (EXAMPLE, ("join", 2, 3), ((0, 1), (1, 2), (1, 2), (2, 2))),
            (((0, 1), (0, 1), (1, 1), (1, 2)), ("join", 0, 1), ((0, 0), (0, 0), (0, 0), (0, 2))),
            (((0, 1), (0, 2), (1, 2)), ("join", 0, 2), ((0, 0), (0, 1), (0, 1))),
            (((0, 5), (0, 9), (3, 5), (3, 9)), ("join", 3, 9), ((0, 3), (0, 5), (3, 3), (3, 5))),
            (((0, 0),), ("loop", 0), ((0, 1),)),
            (((0, 0), (0, 0), (0, 1)), ("loop", 0), ((0, 0), (0, 1), (0, 2))),
            (((0, 1), (1, 1), (1, 3)), ("loop", 1), ((0, 1), (1, 2), (1, 3))),
            (((0, 9), (9, 9)), ("loop", 9), ((0, 9), (1, 9))),
            (((0, 16), (16, 16), (16, 16)), ("loop", 16), ((0, 16), (1, 16), (16, 16))),
            (((0, 1), (0, 2)), ("fork", 0, 1, 2), ()),
            (((0, 5), (0, 9), (5, 7)), ("fork", 0, 5, 9), ((0, 1), (1, 2), (2, 3))),
            (((0, 9), (9, 10), (9, 11), (11, 12)), ("fork", 9, 10, 11), ((0, 9), (1, 2), (1, 9), (2, 3))),
            (((0, 1), (1, 2), (1, 3)), ("fork", 1, 2, 3), ((0, 1),)),
            (((0, 2), (2, 3), (2, 4), (4, 6)), ("fork", 2, 3, 4), ((0, 2), (1, 2), (1, 3), (3, 4))),
            (((0, 1), (0, 4), (0, 6), (4, 5), (6, 7), (7, 8)), ("fork", 0, 4, 6), ((0, 1), (0, 2))),
            (((0, 3), (0, 4), (1, 3), (2, 4)), ("fork", 0, 3, 4), ()),
            (((0, 2), (0, 4), (0, 6), (2, 3), (2, 5)), ("fork", 0, 4, 6), ((0, 2), (2, 3), (2, 5))),
        ]:
            with self.subTest(drawing=drawing, step=step):
                self.assertEqual(stepped(drawing, step), told)

    def test_all_steps_by_the_words(self):
        for drawing in drawings_by_words():
            for step in all_steps(drawing):
                self.assertEqual(stepped(drawing, step), stepped_by_words(drawing, step), (drawing, step))

    def test_a_step_leaves_the_worth_as_it_is(self):
        for drawing in small_drawings() + greater_drawings():
            for step in all_steps(drawing):
                told = stepped(drawing, step)
                self.assertEqual(worth_by_cuts(told), worth_by_cuts(drawing), (drawing, step))
                self.assertEqual(worth(told), worth(drawing), (drawing, step))

    def test_steps_of_great_drawings(self):
        for drawing in great_drawings():
            for step in all_steps(drawing):
                told = stepped(drawing, step)
                self.assertIs(need_drawing(told), told)
                self.assertEqual({type(thing) for thing in (told, *told)}, {tuple})
                self.assertEqual(worth(told), worth(drawing), (drawing, step))

    def test_new_points_are_found_beside_fifteen_others(self):
        drawing = tuple((k, k + 1) for k in range(15)) + ((15, 15),)
        self.assertEqual(stepped(drawing, ("loop", 15)), tuple((k, k + 1) for k in range(16)))
        stalks = tuple(sorted([(0, 1), (0, 2)] + [(k, k + 1) for k in range(2, 16)]))
        self.assertEqual(stepped(stalks, ("fork", 0, 1, 2)), tuple((k, k + 1) for k in range(14)))


class CheckWorthTest(Refusals):

    def test_papers_on_all_samples_hold(self):
        for drawing in all_samples() + greater_drawings() + great_drawings():
            paper = worth_paper(drawing)
            self.assertEqual(check_worth(drawing, paper), worth(drawing), drawing)
            self.assertLessEqual(len(paper), 100)
            self.assertEqual({type(thing) for thing in (paper, *paper)}, {tuple})

    def test_papers_by_the_words(self):
        for drawing in drawings_by_words():
            self.assertEqual(verdict_by_words(drawing, worth_paper(drawing)), worth_by_cuts(drawing), drawing)

    def test_any_steps_lead_to_a_stalk(self):
        chance = random.Random("steps")
        for drawing in all_samples() + greater_drawings() + great_drawings():
            paper, left = (), drawing
            while all_steps(left):
                paper += (chance.choice(all_steps(left)),)
                left = stepped(left, paper[-1])
            self.assertEqual(check_worth(drawing, paper), worth(drawing), (drawing, paper))
            self.assertLessEqual(len(paper), 100)

    def test_papers_on_stalks(self):
        great = DRAWINGS["sixteen in a row"]
        for drawing in [(), ((0, 1),), ((0, 16),), DRAWINGS["stalk with falling numbers"], great]:
            self.assertEqual(check_worth(drawing, ()), len(drawing))
            self.assertEqual(worth_paper(drawing), ())

    def test_what_is_no_stalk_at_the_end(self):
        for drawing in [((0, 0),), ((0, 1), (0, 2)), ((0, 1), (0, 1)), ((0, 1), (1, 1)), ((0, 1), (1, 2), (1, 3)),
                        EXAMPLE, ((0, 1), (0, 2), (2, 3)), ((0, 1), (1, 2), (2, 2)), ((0, 0), (0, 1))]:
            self.tells(BadPaper, "part", "end", check_worth, drawing, ())
        for drawing in drawings_by_words():
            paper = worth_paper(drawing)
            for many in range(len(paper)):
                verdict = verdict_by_words(drawing, paper[:many])
                self.assertEqual(self.verdict(drawing, paper[:many]), verdict)

    def verdict(self, drawing, paper):
        try:
            told = check_worth(drawing, paper)
            self.assertIs(type(told), int)
            return told
        except BadPaper as error:
            if error.part in ("form", "end"):
                return error.part
            self.assertIs(type(error.part), int)
            return f"step {error.part}"

    def test_what_is_no_tuple_of_at_most_100_things(self):
        for wrong in [None, True, 0, 2, "", "form", b"", [], [("loop", 0)], {}, {0}, object(), check_worth,
                      (None,) * 101, (("loop", 0),) * 101, tuple(range(200)), ((),) * 19999]:
            for drawing in [(), ((0, 0),), EXAMPLE]:
                self.tells(BadPaper, "part", "form", check_worth, drawing, wrong)

    def test_a_hundred_things_have_the_form(self):
        self.tells(BadPaper, "part", 0, check_worth, (), (("loop", 0),) * 100)
        self.tells(BadPaper, "part", 16, check_worth, ((0, 0),) * 16, (("loop", 0),) * 100)
        self.tells(BadPaper, "part", 1, check_worth, ((0, 0), (0, 0)), (("loop", 0),) + (None,) * 99)

    def test_the_first_thing_that_is_no_step_there(self):
        self.tells(BadPaper, "part", 0, check_worth, ((0, 1), (0, 2)), (("loop", 0),))
        for drawing in [RICH, EXAMPLE, (), DRAWINGS["fork"]]:
            paper = worth_paper(drawing)
            for at in range(len(paper) + 1):
                for wrong in NO_STEPS:
                    self.tells(BadPaper, "part", at, check_worth, drawing, (*paper[:at], wrong))
                    self.tells(BadPaper, "part", at, check_worth, drawing, (*paper[:at], wrong, *paper[at:]))
                    self.tells(BadPaper, "part", at, check_worth, drawing, (*paper[:at], wrong, None, *paper[at + 1:]))

    def test_no_step_is_left_behind_a_paper(self):
        for drawing in all_samples():
            paper = worth_paper(drawing)
            for step in [("loop", 0), ("join", 0, 1), ("fork", 0, 1, 2)]:
                self.tells(BadPaper, "part", len(paper), check_worth, drawing, (*paper, step))

    def test_papers_with_something_otherwise_by_the_words(self):
        for drawing in [drawing for drawing in small_drawings()[::6] if worth_paper(drawing)]:
            for paper in self.otherwise(drawing, worth_paper(drawing)):
                self.assertEqual(self.verdict(drawing, paper), verdict_by_words(drawing, paper), (drawing, paper))

    def otherwise(self, drawing, paper):
        """Return papers with one thing gone, another one in its place, two in each other's place, or one more."""
        points = points_by_words(drawing)
        steps = [("loop", points[-1]), ("join", 0, points[-1]), ("fork", 0, points[-1], 4), ("loop", True)]
        steps += all_steps(drawing)
        papers = [paper[:at] + paper[at + 1:] for at in range(len(paper))] + [paper[::-1], list(paper), paper * 2]
        papers += [paper[:at] + paper[at:at + 2][::-1] + paper[at + 2:] for at in range(len(paper))]
        papers += [paper[:at] + (step,) + paper[at + 1:] for at in range(len(paper)) for step in steps]
        return papers + [paper[:at] + (step,) + paper[at:] for at in range(len(paper) + 1) for step in steps]

    def test_a_paper_on_another_drawing(self):
        drawings = small_drawings()[::9]
        for one, other in itertools.product(drawings, repeat=2):
            paper = worth_paper(other)
            self.assertEqual(self.verdict(one, paper), verdict_by_words(one, paper), (one, paper))

    def test_wrong_drawings_are_told_ahead_of_wrong_papers(self):
        for wrong, place in WRONG_DRAWINGS:
            for paper in [(), None, (None,) * 101, (("loop", 0),)]:
                self.tells(BadDrawing, "place", place, check_worth, wrong, paper)

    def test_stalks_by_the_words(self):
        for drawing in drawings_by_words():
            self.assertEqual(self.verdict(drawing, ()), len(drawing) if is_stalk_by_words(drawing) else "end")


if __name__ == "__main__":
    unittest.main()
