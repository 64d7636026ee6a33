"""Points [3] and [4], as far as drawings and cuts go: fallcuts.drawings."""

import itertools
import unittest

from fallcuts.drawings import behind, falling, need_drawing, points_of
from fallcuts.errors import BadDrawing, BadNumber
from tests.samples import DRAWINGS, EXAMPLE, NO_INTEGERS, WRONG_DRAWINGS, Edge, Refusals, all_samples, hanging


class NeedDrawingTest(Refusals):

    def test_a_drawing_is_returned_itself(self):
        for name, drawing in DRAWINGS.items():
            with self.subTest(name):
                self.assertIs(need_drawing(drawing), drawing)

    def test_what_is_no_drawing_is_refused_with_its_place(self):
        for wrong, place in WRONG_DRAWINGS:
            with self.subTest(wrong=wrong):
                with self.assertRaises(BadDrawing) as caught:
                    need_drawing(wrong)
                self.assertEqual((caught.exception.place, type(caught.exception.place)), (place, type(place)))

    def test_all_rows_of_few_pairs(self):
        pairs = [(0, 0), (0, 1), (1, 1), (1, 2), (2, 3), (3, 3), (0, 17), (2, 1)]
        for many in range(4):
            for row in itertools.product(pairs, repeat=many):
                with self.subTest(row=row):
                    self.assertEqual(self.place_told(row), self.place_by_words(row))

    def place_told(self, row):
        try:
            self.assertIs(need_drawing(row), row)
        except BadDrawing as error:
            return error.place
        return "right"

    def place_by_words(self, row):
        wrong = [k for k, pair in enumerate(row) if pair in ((0, 17), (2, 1))]
        wrong += [k for k in range(1, len(row)) if row[k] < row[k - 1]]
        if wrong:
            return min(wrong)
        return "right" if len(hanging(row)) == len(row) else "ground"

    def test_seventeen_things_are_told_ahead_of_what_they_are(self):
        self.refuses(BadDrawing, "place", None, need_drawing, (5,) + ((0, 1),) * 16)
        self.refuses(BadDrawing, "place", None, need_drawing, ((1, 2),) * 17)

    def test_the_first_wrong_thing_is_told_whatever_is_wrong_with_it(self):
        self.refuses(BadDrawing, "place", 1, need_drawing, ((0, 2), (0, 1), None))
        self.refuses(BadDrawing, "place", 1, need_drawing, ((0, 2), None, (0, 1)))
        self.refuses(BadDrawing, "place", 1, need_drawing, ((0, 5), (0, 17), (0, 4)))

    def test_a_wrong_thing_is_told_ahead_of_the_ground(self):
        self.refuses(BadDrawing, "place", 1, need_drawing, ((1, 2), None))
        self.refuses(BadDrawing, "place", 1, need_drawing, ((2, 3), (1, 2)))
        self.refuses(BadDrawing, "place", 2, need_drawing, ((0, 1), (2, 3), (3, 2)))

    def test_the_edges_of_the_document(self):
        for drawing in [(), ((0, 1),) * 16, ((0, 0),), ((0, 16),), ((0, 16), (16, 16)),
                        ((0, 1), (0, 1), (1, 1), (1, 1))]:
            self.assertIs(need_drawing(drawing), drawing)
        far = tuple((k, k + 1) for k in range(16))
        self.assertIs(need_drawing(far), far)

    def test_an_edge_may_hang_by_edges_with_greater_numbers(self):
        for drawing in [((0, 9), (2, 5), (5, 9)), ((0, 16), (1, 2), (2, 16)), ((0, 3), (1, 1), (1, 2), (2, 3))]:
            self.assertIs(need_drawing(drawing), drawing)


class PointsTest(Refusals):

    def test_points_of_some_drawings(self):
        self.assertEqual(points_of(()), (0,))
        self.assertEqual(points_of(((0, 0),)), (0,))
        self.assertEqual(points_of(((0, 16),)), (0, 16))
        self.assertEqual(points_of(EXAMPLE), (0, 1, 2, 3))
        self.assertEqual(points_of(((0, 9), (2, 5), (5, 9))), (0, 2, 5, 9))
        self.assertEqual(points_of(DRAWINGS["sixteen in a row"]), tuple(range(17)))

    def test_points_by_the_words(self):
        for drawing in all_samples():
            with self.subTest(drawing=drawing):
                points = tuple(sorted({0} | {point for edge in drawing for point in edge}))
                self.assertEqual(points_of(drawing), points)
                self.assertIs(type(points_of(drawing)), tuple)

    def test_wrong_drawings(self):
        for wrong, _ in WRONG_DRAWINGS:
            self.assertRaises(BadDrawing, points_of, wrong)
        self.refuses(BadDrawing, "place", "ground", points_of, ((1, 2),))


class CutTest(Refusals):

    def test_cuts_of_the_example(self):
        self.assertEqual([falling(EXAMPLE, cut) for cut in range(4)], [(1, 2, 3), (), (), ()])
        self.assertEqual(behind(EXAMPLE, 0), ())
        self.assertEqual(behind(EXAMPLE, 1), ((0, 1), (1, 3), (2, 3)))
        self.assertEqual(behind(EXAMPLE, 3), ((0, 1), (1, 2), (1, 3)))

    def test_cuts_of_edges_of_the_document(self):
        self.assertEqual((behind(((0, 0),), 0), falling(((0, 0),), 0)), ((), ()))
        self.assertEqual(behind(((0, 1),) * 16, 15), ((0, 1),) * 15)
        self.assertEqual(falling(((0, 1),) * 16, 0), ())
        row = DRAWINGS["sixteen in a row"]
        self.assertEqual((falling(row, 0), behind(row, 0)), (tuple(range(1, 16)), ()))
        self.assertEqual((falling(row, 15), behind(row, 15)), ((), row[:15]))
        self.assertEqual((falling(row, 7), behind(row, 7)), (tuple(range(8, 16)), row[:7]))

    def test_what_falls_may_have_lower_numbers_than_the_cut(self):
        drawing = ((0, 9), (2, 2), (2, 5), (5, 9))
        self.assertEqual((falling(drawing, 3), behind(drawing, 3)), ((1, 2), ((0, 9),)))

    def test_loops_fall_with_their_point_and_alike_edges_hold(self):
        self.assertEqual(falling(((0, 1), (1, 1)), 0), (1,))
        self.assertEqual(falling(((0, 1), (0, 1), (1, 1)), 0), ())
        self.assertEqual(behind(((0, 1), (0, 1), (1, 1)), 1), ((0, 1), (1, 1)))
        self.assertEqual(behind(((0, 0), (0, 1), (1, 1)), 2), ((0, 0), (0, 1)))

    def test_all_cuts_by_the_words(self):
        for drawing in all_samples():
            for cut in range(len(drawing)):
                with self.subTest(drawing=drawing, cut=cut):
                    left = [edge for number, edge in enumerate(drawing) if number != cut]
                    numbers = [number for number in range(len(drawing)) if number != cut]
                    hung = hanging(left)
                    self.assertEqual(behind(drawing, cut), tuple(left[k] for k in sorted(hung)))
                    self.assertEqual(falling(drawing, cut), tuple(n for k, n in enumerate(numbers) if k not in hung))

    def test_what_is_behind_a_cut_is_a_drawing(self):
        for name, drawing in DRAWINGS.items():
            for cut in range(len(drawing)):
                with self.subTest(name, cut=cut):
                    self.assertEqual(need_drawing(behind(drawing, cut)), behind(drawing, cut))

    def test_wrong_cuts_are_refused_with_what_was_given(self):
        for call in (behind, falling):
            for drawing in DRAWINGS.values():
                for wrong in NO_INTEGERS + [-1, -2, len(drawing), len(drawing) + 1, 10 ** 39, -10 ** 39]:
                    with self.subTest(call=call, drawing=drawing, wrong=wrong):
                        self.refuses(BadNumber, "given", wrong, call, drawing, wrong)

    def test_a_drawing_without_edges_has_no_cuts(self):
        self.refuses(BadNumber, "given", 0, behind, (), 0)
        self.refuses(BadNumber, "given", 0, falling, (), 0)

    def test_a_wrong_drawing_is_told_ahead_of_a_wrong_cut(self):
        for call in (behind, falling):
            for wrong, place in WRONG_DRAWINGS:
                for cut in (0, -1, None, "0"):
                    with self.subTest(call=call, wrong=wrong, cut=cut):
                        with self.assertRaises(BadDrawing) as caught:
                            call(wrong, cut)
                        self.assertEqual(caught.exception.place, place)

    def test_tuples_that_are_told_are_plain(self):
        drawing = (Edge(0, 1), Edge(1, 2))
        self.assertIs(need_drawing(drawing), drawing)
        self.assertEqual([type(edge) for edge in behind(drawing, 1)], [tuple])
        for told in (points_of(drawing), behind(drawing, 1), falling(drawing, 0)):
            self.assertIs(type(told), tuple)


if __name__ == "__main__":
    unittest.main()
