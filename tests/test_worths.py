"""Points [5] and [6], as far as the WORTHS go: fallcuts.worths."""

import itertools
import unittest

from fallcuts.errors import BadDrawing, BadNumber
from fallcuts.worths import carryless, worth, worths_behind
from tests.samples import (
    DRAWINGS, EXAMPLE, GREAT_DRAWINGS, WRONG_DRAWINGS, Refusals, after_cut, all_samples, great_drawings,
    greater_drawings, least_beside, small_drawings, worth_by_cuts)

KNOWN = {
    "no edges": 0, "one edge": 1, "loop on the ground": 1, "the far point": 1, "loop at the far point": 2, "example": 2,
    "stalk": 3, "stalk with falling numbers": 3, "fork": 4, "bush on the ground": 1, "alike edges": 0,
    "ring at the ground": 1, "sixteen alike": 0, "sixteen loops": 0, "sixteen in a row": 16, "sixteen on the ground": 0,
}


class CarrylessTest(Refusals):

    def test_some_sums(self):
        for numbers, total in [
            ((), 0), ((0,), 0), ((7,), 7), ((3, 5), 6), ((5, 3), 6), ((1, 1), 0), ((1, 1, 1), 1), ((1, 2, 3), 0),
            ((1, 2, 4, 8), 15), ((0, 0, 9), 9), ((16, 15), 31), ((7, 7, 7, 7, 8), 8), ((1,) * 20000, 0),
        ]:
            with self.subTest(numbers=numbers[:9]):
                self.assertEqual(carryless(numbers), total)
                self.assertIs(type(carryless(numbers)), int)

    def test_all_small_sums_by_the_words(self):
        for many in range(4):
            for numbers in itertools.product(range(10), repeat=many):
                self.assertEqual(carryless(numbers), self.sum_by_words(numbers), numbers)

    def sum_by_words(self, numbers):
        powers = [2 ** k for k in range(140)]
        return sum(power for power in powers if sum(number // power % 2 for number in numbers) % 2)

    def test_integers_of_many_figures(self):
        great = 10 ** 40 - 1
        for numbers in [(great,), (great, 1), (great, great - 1, 12345), (2 ** 130, 2 ** 130, 2 ** 129 + 5, 3)]:
            self.assertEqual(carryless(numbers), self.sum_by_words(numbers))
        numbers = (10 ** 500, 10 ** 500 + 10 ** 400, 10 ** 400)
        self.assertEqual(carryless(numbers), numbers[0] ^ numbers[1] ^ numbers[2])

    def test_anything_else_is_refused(self):
        for wrong in [
            None, True, 0, 6, 1.5, "", "12", b"12", [], [3, 5], {}, {3: 5}, {3, 5}, range(3), object(), len, EXAMPLE,
            (-1,), (3, -5), (-10 ** 39,), (True,), (3, False), (True, False), (1.0,), (0.0, 1), (None,), ("3",),
            (b"3",),
            ((3, 5),), ((),), ([3],), (3, 5, None), (3, 5, -1), (None, -1), (object(),),
        ]:
            with self.subTest(wrong=wrong):
                self.refuses(BadNumber, "given", wrong, carryless, wrong)


class WorthTest(Refusals):

    def test_worths_of_some_drawings(self):
        for name, known in KNOWN.items():
            with self.subTest(name):
                self.assertEqual(worth(DRAWINGS[name]), known)
                self.assertIs(type(worth(DRAWINGS[name])), int)

    def test_small_drawings_by_all_cuts(self):
        for drawing in small_drawings():
            self.assertEqual(worth(drawing), worth_by_cuts(drawing), drawing)

    def test_greater_drawings_by_all_cuts(self):
        for drawing in greater_drawings():
            self.assertEqual(worth(drawing), worth_by_cuts(drawing), drawing)

    def test_a_great_comb_by_all_cuts(self):
        self.assertEqual(worth_by_cuts(GREAT_DRAWINGS["comb"][0]), 16)

    def test_great_drawings(self):
        for name, (drawing, known) in GREAT_DRAWINGS.items():
            with self.subTest(name):
                self.assertEqual((len(drawing), worth(drawing)), (16, known))

    def test_the_least_integer_that_is_none_behind(self):
        for drawing in all_samples() + great_drawings():
            told = {worth(after_cut(drawing, cut)) for cut in range(len(drawing))}
            self.assertEqual(worth(drawing), least_beside(told), drawing)

    def test_the_facts_of_the_document(self):
        for drawing in all_samples() + greater_drawings() + great_drawings():
            self.assertLessEqual(worth(drawing), len(drawing))
            self.assertEqual(worth(drawing) % 2, len(drawing) % 2)

    def test_the_numbers_of_the_points_make_no_difference(self):
        for drawing in greater_drawings():
            told = tuple(sorted(tuple(sorted(point and 17 - point for point in edge)) for edge in drawing))
            self.assertEqual(worth(told), worth(drawing), drawing)


class WorthsBehindTest(Refusals):

    def test_worths_behind_some_drawings(self):
        self.assertEqual(worths_behind(()), ())
        self.assertEqual(worths_behind(((0, 0),)), (0,))
        self.assertEqual(worths_behind(EXAMPLE), (0, 3, 3, 1))
        self.assertEqual(worths_behind(DRAWINGS["sixteen in a row"]), tuple(range(16)))
        self.assertEqual(worths_behind(DRAWINGS["sixteen on the ground"]), (1,) * 16)

    def test_small_and_greater_drawings_by_all_cuts(self):
        for drawing in small_drawings() + greater_drawings():
            told = tuple(worth_by_cuts(after_cut(drawing, cut)) for cut in range(len(drawing)))
            self.assertEqual(worths_behind(drawing), told, drawing)

    def test_great_drawings(self):
        for drawing in great_drawings():
            told = worths_behind(drawing)
            self.assertEqual((type(told), len(told)), (tuple, 16))
            self.assertEqual(told, tuple(worth(after_cut(drawing, cut)) for cut in range(16)), drawing)

    def test_wrong_drawings(self):
        for call in (worth, worths_behind):
            for wrong, place in WRONG_DRAWINGS:
                with self.subTest(call=call, wrong=wrong):
                    self.tells(BadDrawing, "place", place, call, wrong)


if __name__ == "__main__":
    unittest.main()
