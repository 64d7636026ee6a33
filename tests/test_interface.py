"""Points [1] and [2] for all functions: names, arguments left as they were, equal results; the examples."""

import copy
import unittest

from fallcuts.drawings import behind, falling, need_drawing, points_of
from fallcuts.errors import BadDrawing, BadNumber, BadPoint, FallError
from fallcuts.rings import are_tied, blocks, bridges
from tests.samples import EXAMPLE, WRONG_DRAWINGS, Refusals

LISTED = {
    "fallcuts.drawings": [
        (need_drawing, {"thing": EXAMPLE}),
        (points_of, {"drawing": EXAMPLE}),
        (behind, {"drawing": EXAMPLE, "cut": 1}),
        (falling, {"drawing": EXAMPLE, "cut": 0}),
    ],
    "fallcuts.rings": [
        (are_tied, {"drawing": EXAMPLE, "point": 0, "second": 3}),
        (blocks, {"drawing": EXAMPLE}),
        (bridges, {"drawing": EXAMPLE}),
    ],
}
CALLS = [row for rows in LISTED.values() for row in rows]

# Values that could be changed, none of which is an argument of any of these calls.
CHANGEABLE = [[], [(0, 1), [1, 2]], {"a": [1]}, {1, 2}, ([0, 1],), ((0, 1), [1, [2]]), ((0, 1), {1: [2]})]


class CallsTest(Refusals):

    def test_each_function_is_defined_in_its_file(self):
        for module, rows in LISTED.items():
            for call, _ in rows:
                self.assertEqual(call.__module__, module)

    def test_arguments_by_position_and_by_name(self):
        for call, named in CALLS:
            with self.subTest(call=call):
                expected = call(*named.values())
                self.assertEqual(call(**named), expected)
                self.assertEqual(call(**dict(reversed(list(named.items())))), expected)
                first, *others = named
                self.assertEqual(call(named[first], **{name: named[name] for name in others}), expected)

    def test_wrong_arguments_by_name(self):
        for call, named in CALLS:
            with self.subTest(call=call):
                first, *others = named
                self.refuses(BadDrawing, "place", 0, call, **{**named, first: ((0, 17),)})
                for name in others:
                    kind = BadNumber if name == "cut" else BadPoint
                    self.refuses(kind, "given", True, call, **{**named, name: True})

    def test_equal_calls_return_equal_results(self):
        for call, named in CALLS:
            with self.subTest(call=call):
                self.assertEqual(call(**named), call(**named))
                self.assertEqual(call(**named), call(**copy.deepcopy(named)))

    def test_the_same_errors_are_told_again(self):
        for call, named in CALLS:
            others = list(named.values())[1:]
            for wrong, place in WRONG_DRAWINGS:
                with self.subTest(call=call, wrong=wrong):
                    self.assertEqual([self.place_told(call, wrong, others) for _ in range(2)], [place, place])

    def place_told(self, call, wrong, others):
        with self.assertRaises(BadDrawing) as caught:
            call(wrong, *others)
        return caught.exception.place

    def test_a_wrong_call_does_not_change_the_next_one(self):
        for call, named in CALLS:
            with self.subTest(call=call):
                expected = call(**named)
                self.assertRaises(BadDrawing, call, [EXAMPLE], *list(named.values())[1:])
                self.assertEqual(call(**named), expected)

    def test_arguments_stay_as_they_were(self):
        for call, named in CALLS:
            with self.subTest(call=call):
                kept = copy.deepcopy(named)
                call(**named)
                self.assertEqual(named, kept)

    def test_wrong_arguments_stay_as_they_were(self):
        for call, named in CALLS:
            for name in named:
                for thing in CHANGEABLE:
                    with self.subTest(call=call, name=name, thing=thing):
                        kept = copy.deepcopy(thing)
                        self.assertRaises(FallError, call, **{**named, name: thing})
                        self.assertEqual(thing, kept)

    def test_later_changes_of_what_was_passed_have_no_effect(self):
        rows = [0, 1]
        self.refuses(BadDrawing, "place", 0, points_of, (rows,))
        rows.append(2)
        self.assertEqual(points_of(((0, 1),)), (0, 1))


class ExamplesTest(Refusals):

    def test_drawings(self):
        d = ((0, 1), (1, 2), (1, 3), (2, 3))
        self.assertEqual(
            [points_of(d), behind(d, 1), falling(d, 0)],
            [(0, 1, 2, 3), ((0, 1), (1, 3), (2, 3)), (1, 2, 3)])
        self.refuses(BadDrawing, "place", "ground", need_drawing, ((0, 1), (2, 3)))

    def test_rings(self):
        d = ((0, 1), (1, 2), (1, 3), (2, 3))
        self.assertEqual([are_tied(d, 2, 3), blocks(d), bridges(d)], [True, ((0,), (1, 2, 3)), (0,)])


if __name__ == "__main__":
    unittest.main()
