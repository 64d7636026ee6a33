"""What several tests use: drawings, wrong values, and the document's words taken literally."""

import collections
import functools
import itertools
import random
import unittest
from unittest import mock

EXAMPLE = ((0, 1), (1, 2), (1, 3), (2, 3))

# Tuples of a class of their own.
Edge = collections.namedtuple("Edge", "low high")

DRAWINGS = {
    "no edges": (),
    "one edge": ((0, 1),),
    "loop on the ground": ((0, 0),),
    "the far point": ((0, 16),),
    "loop at the far point": ((0, 16), (16, 16)),
    "example": EXAMPLE,
    "stalk": ((0, 1), (1, 2), (2, 3)),
    "stalk with falling numbers": ((0, 9), (2, 5), (5, 9)),
    "fork": ((0, 1), (1, 2), (1, 3), (3, 4)),
    "bush on the ground": ((0, 1), (0, 2), (0, 3)),
    "alike edges": ((0, 1), (0, 1), (1, 2), (1, 2), (1, 2), (2, 3)),
    "loops": ((0, 0), (0, 0), (0, 1), (1, 1), (1, 2), (2, 2)),
    "ring at the ground": ((0, 1), (0, 2), (1, 2)),
    "rings that touch": ((0, 1), (0, 2), (1, 2), (2, 3), (2, 4), (3, 4)),
    "rings with a bridge": ((0, 1), (0, 2), (1, 2), (2, 3), (3, 4), (3, 5), (4, 5), (5, 6)),
    "ring with a chord": ((0, 4), (4, 5), (4, 7), (5, 6), (5, 7), (6, 7), (7, 8)),
    "sixteen alike": ((0, 1),) * 16,
    "sixteen loops": ((0, 0),) * 16,
    "sixteen in a row": tuple((k, k + 1) for k in range(16)),
    "sixteen in a ring": ((0, 1), (0, 15)) + tuple((k, k + 1) for k in range(1, 15)),
    "sixteen on the ground": tuple((0, k) for k in range(1, 17)),
}

# Pairs of a value that is no DRAWING, and the place that is told of it.
WRONG_DRAWINGS = [
    (None, None), (True, None), (0, None), (3.5, None), ("", None), ("0-1", None), (b"ab", None),
    ([], None), ([(0, 1)], None), ({}, None), ({(0, 1): True}, None), ({(0, 1)}, None), (object(), None),
    (((0, 1),) * 17, None), ((None,) * 17, None), (tuple((0, k) for k in range(17)), None),
    ((0, 1), 0), ((None,), 0), (("ab",), 0), ((b"ab",), 0), (((),), 0), (((0,),), 0), (((0, 1, 2),), 0),
    (([0, 1],), 0), (((0, 1), [1, 2]), 1), (((0, 1), {0, 1}), 1), (((0, 1), None), 1), (((0, 1), "0-1"), 1),
    (((0, True),), 0), (((False, 1),), 0), (((False, False),), 0), (((0, 1), (True, 2)), 1),
    (((0, 1.0),), 0), (((0.0, 0.0),), 0), ((("0", "1"),), 0), (((0, None),), 0), (((0, (1,)),), 0),
    (((0, [1]),), 0), (((-1, 0),), 0), (((0, 1), (-1, 1)), 1), (((0, 17),), 0), (((0, 1), (1, 17)), 1),
    (((0, 10 ** 39),), 0), (((-10 ** 39, 0),), 0), (((1, 0),), 0), (((0, 1), (2, 1)), 1),
    (((0, 2), (0, 1)), 1), (((0, 1), (1, 2), (0, 1)), 2), (((0, 1), (1, 1), (0, 16)), 2),
    (((0, 1), (1, 3), (1, 2)), 2), (((0, 1),) * 15 + ((0, 0),), 15), (((0, 1),) * 15 + ((0, 17),), 15),
    (((1, 2),), "ground"), (((1, 1),), "ground"), (((16, 16),), "ground"), (((0, 1), (2, 3)), "ground"),
    (((0, 1), (2, 2)), "ground"), (((0, 0), (1, 2), (2, 3)), "ground"),
    (((0, 1), (1, 2), (3, 4), (3, 5), (4, 5)), "ground"), (((1, 2),) * 16, "ground"),
]

# Drawings of sixteen edges, each with its worth.
GREAT_DRAWINGS = {
    "row": (DRAWINGS["sixteen in a row"], 16),
    "bush": (DRAWINGS["sixteen on the ground"], 0),
    "ring": (DRAWINGS["sixteen in a ring"], 0),
    "loops": (DRAWINGS["sixteen loops"], 0),
    # A spine of eight edges with a tooth at each of its points.
    "comb": (tuple(sorted([(k, k + 1) for k in range(8)] + [(k, k + 8) for k in range(1, 9)])), 16),
    # The same teeth, with the spine held at both ends: seven of eight teeth stand on one block.
    "comb in a ring": (tuple(sorted([(0, 8)] + [(k, k + 1) for k in range(8)] + [(k, k + 8) for k in range(1, 8)])), 0),
    # Two rails with five rungs on a foot of three edges.
    "ladder on a foot": (((0, 1), (1, 2), (2, 3)) + tuple(sorted(
        [(k, k + 2) for k in range(3, 11)] + [(k, k + 1) for k in range(3, 13, 2)])), 4),
    # An edge, a ring of three, and so on, four times.
    "rings upon rings": (tuple(
        edge for k in range(0, 12, 3) for edge in ((k, k + 1), (k + 1, k + 2), (k + 1, k + 3), (k + 2, k + 3))), 8),
    # A trunk, then two and two of each.
    "tree": (((0, 1), (1, 2), (1, 3), (2, 4), (2, 5), (3, 6), (3, 7), (4, 8), (4, 9), (5, 10), (5, 11), (6, 12),
              (6, 13), (7, 14), (7, 15), (8, 16)), 8),
    # Stalks of 1, 2, 3, 4 and 5 edges at one point, on a foot of one edge.
    "stalks on a foot": (((0, 1), (1, 2), (1, 3), (1, 5), (1, 8), (1, 12), (3, 4), (5, 6), (6, 7), (8, 9), (9, 10),
                          (10, 11), (12, 13), (13, 14), (14, 15), (15, 16)), 2),
}

# A thing that says of itself that it is equal to any other one.
EQUAL = mock.ANY

# Values that no function takes for an integer.
NO_INTEGERS = [True, False, None, 0.0, 1.0, "", "0", b"0", (), (0,), [], [0], {}, {0: 0}, {0}, object(), len, EQUAL]


# Companies, each of drawings with few edges.
COMPANIES = {
    "one empty": ((),),
    "four empty": ((), (), (), ()),
    "one edge": (((0, 1),),),
    "a loop and nothing": ((), ((0, 0),)),
    "example": (EXAMPLE,),
    "example twice": (EXAMPLE, EXAMPLE),
    "example and a stalk": (EXAMPLE, ((0, 1), (1, 4))),
    "three stalks that are lost": (((0, 1),), ((0, 5), (5, 6)), ((0, 1), (1, 2), (2, 3))),
    "three stalks that are won": (((0, 1),), ((0, 5), (5, 6)), ((0, 1), (1, 2))),
    "four": (((0, 1), (0, 2)), (), ((0, 0), (0, 1), (1, 1)), ((0, 16), (16, 16))),
    "four like ones": (((0, 1), (1, 2)),) * 4,
    "a fork and a ring": (((0, 1), (1, 2), (1, 3)), ((0, 1), (0, 2), (1, 2))),
}

# Pairs of a value that is no COMPANY, and the number that is told of it.
WRONG_COMPANIES = [
    (None, None), (True, None), (0, None), (4, None), (2.5, None), ("", None), ("none", None), (b"ab", None),
    ([], None), ([EXAMPLE], None), ([()], None), ({}, None), ({(): True}, None), ({()}, None), (object(), None),
    ((), None), (((),) * 5, None), ((EXAMPLE,) * 5, None), ((None,) * 5, None),
    (EXAMPLE, 0), (((0, 1),), 0), ((0,), 0), ((True,), 0), ((None,), 0), (("",), 0), (([],), 0),
    (((),) * 3 + (None,), 3),
    ((EXAMPLE, None), 1), ((EXAMPLE, [(0, 1)]), 1), ((EXAMPLE, ((0, 1), (2, 3))), 1), (((), ((1, 1),)), 1),
    ((None, None), 0), (((), None, None), 1), ((((0, 2), (0, 1)), None), 0), (((((0, 1),),),), 0),
    (((), (), ((0, 1), (1, True))), 2), (((), (), (), ((0, 1),) * 17), 3), (((), ((0, 17),), (), ()), 1),
] + [((wrong,), 0) for wrong, _ in WRONG_DRAWINGS] + [(((), EXAMPLE, wrong), 2) for wrong, _ in WRONG_DRAWINGS]

# Values that are no STEP of any DRAWING.
NO_STEPS = [
    None, True, False, 0, 1.5, "", "join", "loop", "fork", b"loop", (), [], {}, {0}, object(), len, (None,), ((),),
    ("join",), ("loop",), ("fork",), ("join", 0), ("join", 0, 1, 2), ("loop", 0, 1), ("fork", 0, 1),
    ("fork", 0, 1, 2, 3),
    ["join", 0, 1], ["loop", 0], ["fork", 0, 1, 2], ("join", [0, 1]), ("join", (0, 1)), (("join", 0, 1),),
    ("Join", 0, 1), ("JOIN", 0, 1), ("joi", 0, 1), ("join ", 0, 1), (b"join", 0, 1), (("join",), 0, 1), (["loop"], 0),
    ({"loop": 0}, 0), (None, 0), (0, 0), (True, 0, 1), ("won", 0), ("loop", None), ("loop", "0"), ("loop", 0.0),
    ("loop", True), ("loop", False), ("loop", ()), ("loop", [0]), ("loop", -1), ("loop", 17), ("loop", 10 ** 39),
    ("join", False, 1), ("join", 0, True), ("join", 0, 1.0), ("join", "0", "1"), ("join", 0, None), ("join", -1, 0),
    ("join", 0, 17), ("join", -10 ** 39, 10 ** 39), ("join", 1, 0), ("join", 0, 0), ("join", 1, 1),
    ("join", 0, 1, None),
    ("fork", False, 1, 2), ("fork", 0, True, 2), ("fork", 0, 1, 2.0), ("fork", 0, "1", "2"), ("fork", 0, 1, None),
    ("fork", 0, 2, 1), ("fork", 0, 1, 1), ("fork", 0, 0, 1), ("fork", 17, 1, 2), ("fork", -1, 1, 2),
    ("fork", 0, -2, -1),
    ("fork", 0, 1, 10 ** 39), ("fork", 0, (1, 2)), ("fork", 0, [1], [2]), {"fork": 0, "loop": 1},
    EQUAL, (EQUAL,), (EQUAL, 0), (EQUAL, 0, 1), (EQUAL, 0, 1, 2), ("loop", EQUAL), ("join", EQUAL, 1),
    ("fork", 0, 1, EQUAL),
]


class Refusals(unittest.TestCase):
    """Tests that ask for errors of one very class that have one very thing."""

    def refuses(self, kind, name, thing, call, /, *given, **named):
        with self.assertRaises(kind) as caught:
            call(*given, **named)
        self.assertIs(type(caught.exception), kind)
        self.assertIs(getattr(caught.exception, name), thing)

    def tells(self, kind, name, thing, call, /, *given):
        """Ask as above for a thing that is equal and of the same type, though perhaps not the very one."""
        with self.assertRaises(kind) as caught:
            call(*given)
        told = getattr(caught.exception, name)
        self.assertEqual((type(caught.exception), told, type(told)), (kind, thing, type(thing)))


def stalk(many):
    return tuple((k, k + 1) for k in range(many))


def small_drawings():
    """Return all DRAWINGS of at most 4 EDGES at the points 0 to 3."""
    pairs = list(itertools.combinations_with_replacement(range(4), 2))
    rows = [row for many in range(5) for row in itertools.combinations_with_replacement(pairs, many)]
    return [row for row in rows if len(hanging(row)) == len(row)]


def all_samples():
    return list(DRAWINGS.values()) + small_drawings()


def hanging(edges):
    """Return the set of the numbers of the edges that hang on the ground, by the words of [3]."""
    hung = {k for k, edge in enumerate(edges) if 0 in edge}
    while True:
        more = {k for k, edge in enumerate(edges) if any(set(edge) & set(edges[j]) for j in hung)}
        if more <= hung:
            return hung
        hung |= more


def edges_lead(edges, start, end):
    """Tell whether edges lead from a point to another one."""
    parts = [{start}, {end}]
    for edge in edges:
        met = [part for part in parts if part & set(edge)]
        parts = [part for part in parts if part not in met] + [set(edge).union(*met)]
    return any({start, end} <= part for part in parts)


def tied_by_words(drawing, point, second):
    """Tell whether two points are tied, by the words of [6]."""
    rests = [drawing[:k] + drawing[k + 1:] for k in range(len(drawing))]
    return point == second or all(edges_lead(rest, point, second) for rest in rests)


def after_cut(drawing, cut):
    """Return the drawing behind a cut, by the words of [4]."""
    left = drawing[:cut] + drawing[cut + 1:]
    return tuple(left[k] for k in sorted(hanging(left)))


def least_beside(numbers):
    """Return the least integer from 0 on that is none of some numbers."""
    return next(k for k in itertools.count() if k not in numbers)


@functools.lru_cache(maxsize=None)
def worth_by_cuts(drawing):
    """Return the worth of a drawing by going through all cuts, by the words of [5]."""
    return least_beside({worth_by_cuts(after_cut(drawing, cut)) for cut in range(len(drawing))})


def all_moves(company):
    return [(number, cut) for number, drawing in enumerate(company) for cut in range(len(drawing))]


def after_move(company, move):
    """Return the company behind a move, by the words of [4]."""
    number, cut = move
    return company[:number] + (after_cut(company[number], cut),) + company[number + 1:]


@functools.lru_cache(maxsize=None)
def won_by_moves(company):
    """Tell whether a company is won by going through all moves, by the words of [4]."""
    return any(not won_by_moves(after_move(company, move)) for move in all_moves(company))


def chance_drawing(chance, many, points):
    """Return a drawing of many edges at points below a number, by a source of chance."""
    edges, met = [], [0]
    while len(edges) < many:
        one, other = chance.choice(met), chance.randrange(points)
        edges.append((min(one, other), max(one, other)))
        met.append(other)
    return tuple(sorted(edges))


def greater_drawings():
    """Return drawings of 5 to 8 edges, the same ones each time."""
    chance = random.Random("fallcuts")
    return [chance_drawing(chance, many, points) for many in range(5, 9) for points in range(2, 10) for _ in range(3)]


def great_drawings():
    """Return drawings of 16 edges, the same ones each time."""
    chance = random.Random("great")
    made = [chance_drawing(chance, 16, 1 + points) for points in range(17) for _ in range(2)]
    return [drawing for drawing, _ in GREAT_DRAWINGS.values()] + made
