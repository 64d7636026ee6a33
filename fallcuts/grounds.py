"""Other places for the ground: a DRAWING that stands on one of its points, and its WORTH there."""

from fallcuts.drawings import GROUND, in_order, need_drawing, need_point, points_of
from fallcuts.worths import worth


def standing_on(drawing, point):
    """Return the DRAWING that stands on a point of it."""
    need_drawing(drawing)
    need_point(drawing, point)
    names = {GROUND: point, point: GROUND}
    return in_order([[names.get(end, end) for end in edge] for edge in drawing])


def worths_on(drawing):
    """Return the ascending tuple of pairs of each point of a DRAWING and the WORTH on it."""
    return tuple([(point, worth(standing_on(drawing, point))) for point in points_of(drawing)])
