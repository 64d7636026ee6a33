"""Point [15]: fallcuts.grounds."""

import unittest

from fallcuts.drawings import need_drawing
from fallcuts.errors import BadDrawing, BadPoint
from fallcuts.grounds import standing_on, worths_on
from fallcuts.worths import worth
from tests.samples import (
    DRAWINGS, EXAMPLE, NO_INTEGERS, WRONG_DRAWINGS, Edge, Refusals, all_samples, great_drawings, greater_drawings,
    worth_by_cuts)
from tests.words import points_by_words


def standing_by_words(drawing, point):
    """Return the drawing in which a point and the ground change their names, by the words of [15]."""
    return tuple(sorted(tuple(sorted({0: point, point: 0}.get(end, end) for end in edge)) for edge in drawing))


def all_drawings():
    far = [((0, 16),), ((0, 16), (16, 16)), ((0, 3), (3, 16)), ((0, 0), (0, 16), (9, 16))]
    return all_samples() + greater_drawings() + great_drawings() + far


class StandingOnTest(Refusals):

    def test_some_drawings(self):
        for drawing, point, known in [
            ((), 0, ()), (((0, 0),), 0, ((0, 0),)), (EXAMPLE, 0, EXAMPLE), (((0, 1),), 1, ((0, 1),)),
            (EXAMPLE, 1, ((0, 1), (0, 2), (0, 3), (2, 3))), (EXAMPLE, 2, ((0, 1), (0, 3), (1, 2), (1, 3))),
            (((0, 1), (0, 2), (2, 3)), 3, ((0, 2), (1, 3), (2, 3))), (((0, 0), (0, 1)), 1, ((0, 1), (1, 1))),
            (((0, 1), (1, 1)), 1, ((0, 0), (0, 1))), (((0, 16), (16, 16)), 16, ((0, 0), (0, 16))),
            (((0, 9), (2, 5), (5, 9)), 5, ((0, 2), (0, 9), (5, 9))),
            (((0, 1), (0, 1), (1, 2)), 2, ((0, 1), (1, 2), (1, 2))),
            (DRAWINGS["sixteen in a row"], 16, ((0, 15), (1, 2), (1, 16)) + tuple((k, k + 1) for k in range(2, 15))),
        ]:
            self.assertEqual(standing_on(drawing, point), known, (drawing, point))

    def test_by_the_words(self):
        for drawing in all_drawings():
            for point in points_by_words(drawing):
                told = standing_on(drawing, point)
                self.assertEqual(told, standing_by_words(drawing, point), (drawing, point))
                self.assertIs(need_drawing(told), told)

    def test_twice_is_as_it_was(self):
        for drawing in all_drawings():
            for point in points_by_words(drawing):
                self.assertEqual(standing_on(standing_on(drawing, point), point), drawing)

    def test_wrong_points(self):
        for drawing, wrongs in [((), [1, 16]), (EXAMPLE, [4, 16]), (((0, 16),), [1, 15]), (((0, 2), (2, 4)), [1, 3])]:
            for wrong in NO_INTEGERS + wrongs + [-1, 17, 10 ** 39, -10 ** 39, "1", (1,)]:
                self.refuses(BadPoint, "given", wrong, standing_on, drawing, wrong)

    def test_wrong_drawings_ahead_of_wrong_points(self):
        for wrong, place in WRONG_DRAWINGS:
            for point in (0, 1, 17, None):
                self.tells(BadDrawing, "place", place, standing_on, wrong, point)

    def test_tuples_that_are_told_are_plain(self):
        drawing = (Edge(0, 1), Edge(1, 2))
        for point in (0, 1, 2):
            told = standing_on(drawing, point)
            self.assertEqual({type(thing) for thing in (told, *told)}, {tuple})


class WorthsOnTest(Refusals):

    def test_some_drawings(self):
        for drawing, known in [
            ((), ((0, 0),)), (((0, 0),), ((0, 1),)), (((0, 16),), ((0, 1), (16, 1))),
            (((0, 1), (1, 2)), ((0, 2), (1, 0), (2, 2))), (((0, 1), (1, 2), (1, 3)), ((0, 1), (1, 1), (2, 1), (3, 1))),
            (DRAWINGS["sixteen loops"], ((0, 0),)), (DRAWINGS["sixteen alike"], ((0, 0), (1, 0))),
            (DRAWINGS["sixteen in a row"], tuple((k, k ^ (16 - k)) for k in range(17))),
        ]:
            self.assertEqual(worths_on(drawing), known, drawing)

    def test_by_all_cuts(self):
        for drawing in all_samples() + greater_drawings():
            if len(drawing) < 16:
                known = [(k, worth_by_cuts(standing_by_words(drawing, k))) for k in points_by_words(drawing)]
                self.assertEqual(worths_on(drawing), tuple(known), drawing)

    def test_drawings_of_sixteen_edges(self):
        for drawing in great_drawings():
            known = [(k, worth(standing_by_words(drawing, k))) for k in points_by_words(drawing)]
            self.assertEqual(worths_on(drawing), tuple(known), drawing)

    def test_the_worths_are_all_odd_or_all_even(self):
        for drawing in all_drawings():
            self.assertEqual({found % 2 for _, found in worths_on(drawing)}, {len(drawing) % 2}, drawing)

    def test_tuples_that_are_told_are_plain(self):
        told = worths_on((Edge(0, 1), Edge(1, 2)))
        self.assertEqual({type(thing) for thing in (told, *told)}, {tuple})

    def test_wrong_drawings(self):
        for wrong, place in WRONG_DRAWINGS:
            self.tells(BadDrawing, "place", place, worths_on, wrong)


if __name__ == "__main__":
    unittest.main()
