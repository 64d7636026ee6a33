"""Drawings put together: at the ground, upon a point, and upon the end of a stalk."""

from fallcuts.drawings import GROUND, MOST_EDGES, free_points, in_order, need_drawing, need_point, need_small, points_of
from fallcuts.errors import TooMany


def together(one, other):
    """Return the DRAWING of two that are put together at the ground."""
    return upon(one, GROUND, other)


def upon(one, point, other):
    """Return the DRAWING of two, the other one put upon a point of the first."""
    need_drawing(one)
    need_point(one, point)
    need_drawing(other)
    if len(one) + len(other) > MOST_EDGES:
        raise TooMany(MOST_EDGES)
    points = points_of(other)
    # There are at most as many points as EDGES beside the ground, so that no name is greater than 16.
    names = dict(zip(points, [point, *free_points(one, len(points) - 1)]))
    return in_order([*one, *[(names[low], names[high]) for low, high in other]])


def lifted(drawing, many):
    """Return the DRAWING of one that is put upon the end of a stalk of many EDGES."""
    need_drawing(drawing)
    need_small(many)
    stalk = tuple([(at, at + 1) for at in range(many)])
    return upon(stalk, many, drawing)
