"""What several tests use: drawings, wrong values, and the document's words taken literally."""

import itertools
import unittest

EXAMPLE = ((0, 1), (1, 2), (1, 3), (2, 3))

DRAWINGS = {
    "no edges": (),
    "one edge": ((0, 1),),
    "loop on the ground": ((0, 0),),
    "the far point": ((0, 16),),
    "loop at the far point": ((0, 16), (16, 16)),
    "example": EXAMPLE,
    "stalk": ((0, 1), (1, 2), (2, 3)),
    "stalk with falling numbers": ((0, 9), (2, 5), (5, 9)),
    "fork": ((0, 1), (1, 2), (1, 3), (3, 4)),
    "bush on the ground": ((0, 1), (0, 2), (0, 3)),
    "alike edges": ((0, 1), (0, 1), (1, 2), (1, 2), (1, 2), (2, 3)),
    "loops": ((0, 0), (0, 0), (0, 1), (1, 1), (1, 2), (2, 2)),
    "ring at the ground": ((0, 1), (0, 2), (1, 2)),
    "rings that touch": ((0, 1), (0, 2), (1, 2), (2, 3), (2, 4), (3, 4)),
    "rings with a bridge": ((0, 1), (0, 2), (1, 2), (2, 3), (3, 4), (3, 5), (4, 5), (5, 6)),
    "ring with a chord": ((0, 4), (4, 5), (4, 7), (5, 6), (5, 7), (6, 7), (7, 8)),
    "sixteen alike": ((0, 1),) * 16,
    "sixteen loops": ((0, 0),) * 16,
    "sixteen in a row": tuple((k, k + 1) for k in range(16)),
    "sixteen in a ring": ((0, 1), (0, 15)) + tuple((k, k + 1) for k in range(1, 15)),
    "sixteen on the ground": tuple((0, k) for k in range(1, 17)),
}

# Pairs of a value that is no DRAWING, and the place that is told of it.
WRONG_DRAWINGS = [
    (None, None), (True, None), (0, None), (3.5, None), ("", None), ("0-1", None), (b"ab", None),
    ([], None), ([(0, 1)], None), ({}, None), ({(0, 1): True}, None), ({(0, 1)}, None), (object(), None),
    (((0, 1),) * 17, None), ((None,) * 17, None), (tuple((0, k) for k in range(17)), None),
    ((0, 1), 0), ((None,), 0), (("ab",), 0), ((b"ab",), 0), (((),), 0), (((0,),), 0), (((0, 1, 2),), 0),
    (([0, 1],), 0), (((0, 1), [1, 2]), 1), (((0, 1), {0, 1}), 1), (((0, 1), None), 1), (((0, 1), "0-1"), 1),
    (((0, True),), 0), (((False, 1),), 0), (((False, False),), 0), (((0, 1), (True, 2)), 1),
    (((0, 1.0),), 0), (((0.0, 0.0),), 0), ((("0", "1"),), 0), (((0, None),), 0), (((0, (1,)),), 0),
    (((0, [1]),), 0), (((-1, 0),), 0), (((0, 1), (-1, 1)), 1), (((0, 17),), 0), (((0, 1), (1, 17)), 1),
    (((0, 10 ** 39),), 0), (((-10 ** 39, 0),), 0), (((1, 0),), 0), (((0, 1), (2, 1)), 1),
    (((0, 2), (0, 1)), 1), (((0, 1), (1, 2), (0, 1)), 2), (((0, 1), (1, 1), (0, 16)), 2),
    (((0, 1), (1, 3), (1, 2)), 2), (((0, 1),) * 15 + ((0, 0),), 15), (((0, 1),) * 15 + ((0, 17),), 15),
    (((1, 2),), "ground"), (((1, 1),), "ground"), (((16, 16),), "ground"), (((0, 1), (2, 3)), "ground"),
    (((0, 1), (2, 2)), "ground"), (((0, 0), (1, 2), (2, 3)), "ground"),
    (((0, 1), (1, 2), (3, 4), (3, 5), (4, 5)), "ground"), (((1, 2),) * 16, "ground"),
]

# Values that no function takes for an integer.
NO_INTEGERS = [True, False, None, 0.0, 1.0, "", "0", b"0", (), (0,), [], [0], {}, {0: 0}, {0}, object(), len]


class Refusals(unittest.TestCase):
    """Tests that ask for errors of one very class that have one very thing."""

    def refuses(self, kind, name, thing, call, /, *given, **named):
        with self.assertRaises(kind) as caught:
            call(*given, **named)
        self.assertIs(type(caught.exception), kind)
        self.assertIs(getattr(caught.exception, name), thing)


def small_drawings():
    """Return all DRAWINGS of at most 4 EDGES at the points 0 to 3."""
    pairs = list(itertools.combinations_with_replacement(range(4), 2))
    rows = [row for many in range(5) for row in itertools.combinations_with_replacement(pairs, many)]
    return [row for row in rows if len(hanging(row)) == len(row)]


def all_samples():
    return list(DRAWINGS.values()) + small_drawings()


def hanging(edges):
    """Return the set of the numbers of the edges that hang on the ground, by the words of [3]."""
    hung = {k for k, edge in enumerate(edges) if 0 in edge}
    while True:
        more = {k for k, edge in enumerate(edges) if any(set(edge) & set(edges[j]) for j in hung)}
        if more <= hung:
            return hung
        hung |= more


def edges_lead(edges, start, end):
    """Tell whether edges lead from a point to another one."""
    parts = [{start}, {end}]
    for edge in edges:
        met = [part for part in parts if part & set(edge)]
        parts = [part for part in parts if part not in met] + [set(edge).union(*met)]
    return any({start, end} <= part for part in parts)


def tied_by_words(drawing, point, second):
    """Tell whether two points are tied, by the words of [6]."""
    rests = [drawing[:k] + drawing[k + 1:] for k in range(len(drawing))]
    return point == second or all(edges_lead(rest, point, second) for rest in rests)
