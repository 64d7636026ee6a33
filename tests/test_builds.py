"""Point [12]: fallcuts.builds."""

import itertools
import unittest

from fallcuts.builds import lifted, together, upon
from fallcuts.drawings import need_drawing
from fallcuts.errors import BadDrawing, BadNumber, BadPoint, TooMany
from fallcuts.worths import worth
from tests.samples import (
    DRAWINGS, EQUAL, EXAMPLE, GREAT_DRAWINGS, NO_INTEGERS, WRONG_DRAWINGS, Edge, Refusals, great_drawings,
    greater_drawings, least_beside, small_drawings, stalk, worth_by_cuts)
from tests.words import points_by_words

ROW = DRAWINGS["sixteen in a row"]
BUSH = DRAWINGS["sixteen on the ground"]


def put_by_words(one, point, other):
    """Return the drawing of one with another one upon a point of it, by the words of the interface."""
    taken = points_by_words(one)
    names = {0: point}
    for old in points_by_words(other)[1:]:
        names[old] = least_beside(taken)
        taken.append(names[old])
    return tuple(sorted(one + tuple((*sorted([names[a], names[b]]),) for a, b in other)))


def few():
    """Return DRAWINGS of at most 3 EDGES, and some of one or two EDGES at far points."""
    far = [((0, 16),), ((0, 9), (9, 16)), ((0, 16), (16, 16)), ((0, 5), (3, 5)), ((0, 2), (0, 16)), ((0, 15), (15, 16))]
    return [drawing for drawing in small_drawings()[::4] if len(drawing) < 4] + far


def pairs():
    return list(itertools.product(few()[::2], few()[1::2])) + list(zip(few(), few()))


class TogetherTest(Refusals):

    def test_some_pairs(self):
        for one, other, known in [
            ((), (), ()), ((), EXAMPLE, EXAMPLE), (EXAMPLE, (), EXAMPLE), ((), ((0, 9), (2, 9)), ((0, 2), (1, 2))),
            (((0, 9), (2, 9)), (), ((0, 9), (2, 9))), (((0, 1), (0, 2)), ((0, 1),), ((0, 1), (0, 2), (0, 3))),
            (((0, 2),), ((0, 1), (1, 2)), ((0, 1), (0, 2), (1, 3))),
            (((0, 2),), ((0, 2), (1, 2)), ((0, 2), (0, 3), (1, 3))),
            (((0, 16),), ((0, 16), (16, 16)), ((0, 1), (0, 16), (1, 1))),
            (((0, 0), (0, 1)), ((0, 0), (0, 1)), ((0, 0), (0, 0), (0, 1), (0, 2))),
            (((0, 1), (1, 1)), ((0, 0),), ((0, 0), (0, 1), (1, 1))),
            (ROW[:8], ROW[:8], tuple(sorted(ROW[:8] + ((0, 9),) + ROW[9:]))),
        ]:
            self.assertEqual(together(one, other), known, (one, other))

    def test_by_the_words(self):
        for one, other in pairs():
            self.assertEqual(together(one, other), put_by_words(one, 0, other), (one, other))

    def test_the_worth_by_all_cuts(self):
        for one, other in pairs():
            known = worth_by_cuts(one) ^ worth_by_cuts(other)
            self.assertEqual(worth_by_cuts(together(one, other)), known, (one, other))

    def test_what_is_told_is_a_drawing(self):
        for one, other in pairs():
            need_drawing(together(one, other))

    def test_fifteen_and_sixteen_edges(self):
        self.assertEqual(together(BUSH[1:], ((0, 16),)), BUSH)
        self.assertEqual(together(BUSH[:15], ((0, 1),)), BUSH)
        self.assertEqual(together(((0, 16),), ROW[:15]), tuple(sorted(ROW[:15] + ((0, 16),))))
        for drawing in great_drawings():
            self.assertEqual(together(drawing, ()), drawing)
            self.assertEqual(together((), drawing), put_by_words((), 0, drawing))
        for one, other in itertools.product(greater_drawings()[::5], repeat=2):
            told = together(one, other)
            self.assertEqual(told, put_by_words(one, 0, other), (one, other))
            self.assertEqual(worth(told), worth(one) ^ worth(other))

    def test_too_many_edges(self):
        for one, other in [(ROW, ((0, 1),)), (((0, 0),), ROW), (ROW, ROW), (ROW[:15], BUSH[:2]), (BUSH[:8], BUSH[:9])]:
            self.tells(TooMany, "most", 16, together, one, other)

    def test_wrong_drawings_ahead_of_too_many(self):
        for wrong, place in WRONG_DRAWINGS:
            for drawing in [(), EXAMPLE, ROW]:
                self.tells(BadDrawing, "place", place, together, wrong, drawing)
                self.tells(BadDrawing, "place", place, together, drawing, wrong)
            self.tells(BadDrawing, "place", place, together, wrong, ((1, 2),))
            self.tells(BadDrawing, "place", "ground", together, ((1, 2),), wrong)


class UponTest(Refusals):

    def test_some_pairs(self):
        for one, point, other, known in [
            ((), 0, (), ()), (EXAMPLE, 3, (), EXAMPLE), ((), 0, ((0, 5), (5, 6)), ((0, 1), (1, 2))),
            (((0, 1), (0, 2)), 2, ((0, 1),), ((0, 1), (0, 2), (2, 3))),
            (((0, 1), (0, 2)), 1, ((0, 0), (0, 7)), ((0, 1), (0, 2), (1, 1), (1, 3))),
            (((0, 16),), 16, ((0, 16),), ((0, 16), (1, 16))),
            (((0, 16),), 16, ((0, 0), (0, 3), (3, 9)), ((0, 16), (1, 2), (1, 16), (16, 16))),
            (((0, 3), (3, 5)), 5, ((0, 1), (0, 2), (1, 2)), ((0, 3), (1, 2), (1, 5), (2, 5), (3, 5))),
            (((0, 2),), 2, ((0, 9), (2, 9), (2, 16)), ((0, 2), (1, 3), (1, 4), (2, 3))),
        ]:
            self.assertEqual(upon(one, point, other), known, (one, point, other))

    def test_by_the_words(self):
        for one, other in pairs():
            for point in points_by_words(one):
                told = upon(one, point, other)
                self.assertEqual(told, put_by_words(one, point, other), (one, point, other))
                need_drawing(told)

    def test_on_the_ground_it_is_put_together(self):
        for one, other in pairs():
            self.assertEqual(upon(one, 0, other), together(one, other))

    def test_an_alike_one_may_be_put_there_by_all_cuts(self):
        for one in few()[::6]:
            for point in points_by_words(one):
                worths = {}
                for other in few():
                    found = worth_by_cuts(upon(one, point, other))
                    self.assertEqual(worths.setdefault(worth_by_cuts(other), found), found, (one, point, other))

    def test_sixteen_edges(self):
        self.assertEqual(upon(ROW[:15], 15, ((0, 1),)), ROW)
        self.assertEqual(upon(ROW[:8], 8, ROW[:8]), ROW)
        self.assertEqual(upon(ROW, 16, ()), ROW)
        self.assertEqual(upon((), 0, ROW), ROW)
        self.assertEqual(upon(BUSH[1:], 16, ((0, 16),)), tuple(sorted(BUSH[1:] + ((1, 16),))))
        for one, other in itertools.product(greater_drawings()[::7], greater_drawings()[3::7]):
            for point in points_by_words(one):
                told = upon(one, point, other)
                self.assertEqual(told, put_by_words(one, point, other), (one, point, other))
                self.assertEqual(worth(told), worth(upon(one, point, stalk(worth(other)))))

    def test_too_many_edges(self):
        for one, point, other in [(ROW, 16, ((0, 1),)), (((0, 0),), 0, ROW), (ROW, 7, ROW), (BUSH[:8], 8, BUSH[:9])]:
            self.tells(TooMany, "most", 16, upon, one, point, other)

    def test_wrong_points(self):
        for one, wrongs in [((), [1, 16]), (EXAMPLE, [4, 16]), (((0, 16),), [1, 15]), (ROW, [17])]:
            for wrong in NO_INTEGERS + wrongs + [-1, 17, 10 ** 39, "1", (1,)]:
                for other in [EXAMPLE, (), ROW, None, ((1, 2),)]:
                    self.refuses(BadPoint, "given", wrong, upon, one, wrong, other)

    def test_wrong_drawings(self):
        for wrong, place in WRONG_DRAWINGS:
            for point in (0, 1, None, 17):
                for other in [EXAMPLE, ROW, None]:
                    self.tells(BadDrawing, "place", place, upon, wrong, point, other)
            self.tells(BadDrawing, "place", place, upon, ROW, 16, wrong)
            self.tells(BadDrawing, "place", place, upon, (), 0, wrong)


class LiftedTest(Refusals):

    def test_some_drawings(self):
        for drawing, many, known in [
            ((), 0, ()), ((), 1, ((0, 1),)), ((), 16, ROW), (((0, 9), (9, 16)), 0, ((0, 1), (1, 2))),
            (((0, 1), (0, 2)), 1, ((0, 1), (1, 2), (1, 3))), (((0, 0),), 1, ((0, 1), (1, 1))),
            (((0, 16), (16, 16)), 2, ((0, 1), (1, 2), (2, 3), (3, 3))),
            (EXAMPLE, 3, ((0, 1), (1, 2), (2, 3), (3, 4), (4, 5), (4, 6), (5, 6))),
            (ROW[:8], 8, ROW), (ROW[:1], 15, ROW), (((0, 0),), 15, ROW[:15] + ((15, 15),)), (ROW, 0, ROW),
        ]:
            self.assertEqual(lifted(drawing, many), known, (drawing, many))

    def test_by_the_words(self):
        for drawing in small_drawings() + few() + greater_drawings():
            for many in range(17 - len(drawing)):
                told = lifted(drawing, many)
                self.assertEqual(told, put_by_words(stalk(many), many, drawing), (drawing, many))
                need_drawing(told)

    def test_the_worth_by_all_cuts(self):
        for drawing in small_drawings() + few():
            for many in range(5):
                self.assertEqual(worth_by_cuts(lifted(drawing, many)), many + worth_by_cuts(drawing), (drawing, many))

    def test_sixteen_edges(self):
        for drawing in great_drawings():
            self.assertEqual(lifted(drawing, 0), put_by_words((), 0, drawing))
            self.tells(TooMany, "most", 16, lifted, drawing, 1)
            self.tells(TooMany, "most", 16, lifted, drawing, 16)
        self.assertEqual(worth(lifted(GREAT_DRAWINGS["bush"][0][:9], 7)), 8)

    def test_too_many_edges(self):
        for drawing, many in [(EXAMPLE, 13), (((0, 1),), 16), (ROW[:9], 8), (ROW[:15], 2)]:
            self.tells(TooMany, "most", 16, lifted, drawing, many)

    def test_wrong_numbers(self):
        for drawing in [(), EXAMPLE, ROW]:
            for wrong in NO_INTEGERS + [-1, 17, 10 ** 39, -10 ** 39, "1", (1,), EQUAL]:
                self.refuses(BadNumber, "given", wrong, lifted, drawing, wrong)

    def test_wrong_drawings_ahead_of_wrong_numbers(self):
        for wrong, place in WRONG_DRAWINGS:
            for many in (0, 16, 17, None):
                self.tells(BadDrawing, "place", place, lifted, wrong, many)


class PlainTuplesTest(unittest.TestCase):

    def test_tuples_that_are_told_are_plain(self):
        drawing = (Edge(0, 1), Edge(1, 1))
        for told in [together(drawing, drawing), upon(drawing, 1, drawing), lifted(drawing, 0), lifted(drawing, 2)]:
            self.assertEqual({type(thing) for thing in (told, *told)}, {tuple})


if __name__ == "__main__":
    unittest.main()
