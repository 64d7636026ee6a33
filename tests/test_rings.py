"""Point [6]: fallcuts.rings."""

import unittest

from fallcuts.drawings import points_of
from fallcuts.errors import BadDrawing, BadPoint
from fallcuts.rings import are_tied, blocks, bridges
from tests.samples import DRAWINGS, EXAMPLE, NO_INTEGERS, WRONG_DRAWINGS, Refusals, all_samples, tied_by_words

# The BLOCKS and the bridges of some of the drawings.
KNOWN = {
    "no edges": (((0,),), ()),
    "one edge": (((0,), (1,)), (0,)),
    "loop on the ground": (((0,),), ()),
    "the far point": (((0,), (16,)), (0,)),
    "loop at the far point": (((0,), (16,)), (0,)),
    "example": (((0,), (1, 2, 3)), (0,)),
    "stalk": (((0,), (1,), (2,), (3,)), (0, 1, 2)),
    "stalk with falling numbers": (((0,), (2,), (5,), (9,)), (0, 1, 2)),
    "fork": (((0,), (1,), (2,), (3,), (4,)), (0, 1, 2, 3)),
    "alike edges": (((0, 1, 2), (3,)), (5,)),
    "loops": (((0,), (1,), (2,)), (2, 4)),
    "ring at the ground": (((0, 1, 2),), ()),
    "rings that touch": (((0, 1, 2, 3, 4),), ()),
    "rings with a bridge": (((0, 1, 2), (3, 4, 5), (6,)), (3, 7)),
    "ring with a chord": (((0,), (4, 5, 6, 7), (8,)), (0, 6)),
    "sixteen alike": (((0, 1),), ()),
    "sixteen loops": (((0,),), ()),
    "sixteen in a row": (tuple((k,) for k in range(17)), tuple(range(16))),
    "sixteen in a ring": ((tuple(range(16)),), ()),
}


class TiedTest(Refusals):

    def test_pairs_of_some_drawings(self):
        self.assertIs(are_tied(EXAMPLE, 2, 3), True)
        self.assertIs(are_tied(EXAMPLE, 0, 3), False)
        self.assertIs(are_tied((), 0, 0), True)
        self.assertIs(are_tied(((0, 1),), 0, 1), False)
        self.assertIs(are_tied(((0, 1),), 1, 1), True)
        self.assertIs(are_tied(((0, 1), (0, 1)), 0, 1), True)
        self.assertIs(are_tied(((0, 1), (1, 1)), 0, 1), False)
        self.assertIs(are_tied(((0, 16), (0, 16)), 16, 0), True)

    def test_rings_that_touch_at_one_point_are_tied_together(self):
        self.assertIs(are_tied(DRAWINGS["rings that touch"], 1, 4), True)
        self.assertIs(are_tied(DRAWINGS["rings with a bridge"], 1, 4), False)

    def test_points_beyond_two_bridges_are_not_tied(self):
        self.assertIs(are_tied(((0, 1), (0, 2)), 1, 2), False)
        self.assertIs(are_tied(DRAWINGS["sixteen in a row"], 15, 16), False)

    def test_all_pairs_by_the_words(self):
        for drawing in all_samples():
            for point in points_of(drawing):
                for second in points_of(drawing):
                    with self.subTest(drawing=drawing, point=point, second=second):
                        told = are_tied(drawing, point, second)
                        self.assertIs(told, tied_by_words(drawing, point, second))

    def test_wrong_points_are_refused_with_what_was_given(self):
        for drawing in DRAWINGS.values():
            absent = [point for point in range(-1, 19) if point not in points_of(drawing)]
            for wrong in NO_INTEGERS + absent + [10 ** 39]:
                with self.subTest(drawing=drawing, wrong=wrong):
                    self.refuses(BadPoint, "given", wrong, are_tied, drawing, wrong, 0)
                    self.refuses(BadPoint, "given", wrong, are_tied, drawing, 0, wrong)
                    self.refuses(BadPoint, "given", wrong, are_tied, drawing, wrong, wrong)

    def test_the_first_wrong_point_is_told_first(self):
        for first, second in [(4, 5), (None, 4), (4, None), ([0], [1]), (True, -1), (-1, True)]:
            self.refuses(BadPoint, "given", first, are_tied, EXAMPLE, first, second)

    def test_a_wrong_drawing_is_told_ahead_of_wrong_points(self):
        for wrong, place in WRONG_DRAWINGS:
            for point, second in [(0, 0), (-1, 0), (0, None), (True, "0")]:
                with self.subTest(wrong=wrong, point=point, second=second):
                    with self.assertRaises(BadDrawing) as caught:
                        are_tied(wrong, point, second)
                    self.assertEqual(caught.exception.place, place)


class BlocksTest(Refusals):

    def test_blocks_and_bridges_of_some_drawings(self):
        for name, (known_blocks, known_bridges) in KNOWN.items():
            with self.subTest(name):
                self.assertEqual(blocks(DRAWINGS[name]), known_blocks)
                self.assertEqual(bridges(DRAWINGS[name]), known_bridges)

    def test_blocks_need_not_be_rows_of_neighbours(self):
        drawing = ((0, 2), (0, 4), (1, 3), (1, 3), (1, 4), (2, 4))
        self.assertEqual(blocks(drawing), ((0, 2, 4), (1, 3)))
        self.assertEqual(bridges(drawing), (4,))

    def test_blocks_by_the_words(self):
        for drawing in all_samples():
            with self.subTest(drawing=drawing):
                points = points_of(drawing)
                words = {tuple(q for q in points if tied_by_words(drawing, p, q)) for p in points}
                self.assertEqual(blocks(drawing), tuple(sorted(words)))

    def test_bridges_by_the_words(self):
        for drawing in all_samples():
            with self.subTest(drawing=drawing):
                words = [k for k, (low, high) in enumerate(drawing) if not tied_by_words(drawing, low, high)]
                self.assertEqual(bridges(drawing), tuple(words))

    def test_plain_tuples_are_told(self):
        for drawing in DRAWINGS.values():
            told = [blocks(drawing), bridges(drawing), *blocks(drawing)]
            self.assertEqual({type(one) for one in told}, {tuple})

    def test_wrong_drawings(self):
        for call in (blocks, bridges):
            for wrong, place in WRONG_DRAWINGS:
                with self.subTest(call=call, wrong=wrong):
                    with self.assertRaises(BadDrawing) as caught:
                        call(wrong)
                    self.assertEqual(caught.exception.place, place)


if __name__ == "__main__":
    unittest.main()
