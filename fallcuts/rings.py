"""Rings: which points are tied, the BLOCKS of tied points, and the bridges between them."""

from fallcuts.drawings import need_drawing, need_point, points_of, reached, without


def parting_edges(drawing):
    """Return, for each point, the ascending tuple of the EDGES that alone part it from the ground.

    An EDGE that alone parts two points leaves the ground with just one of
    them. So two points are tied exactly if the same EDGES part them from it.
    """
    left = [reached(without(drawing, number)) for number in range(len(drawing))]
    return {
        point: tuple([number for number, held in enumerate(left) if point not in held])
        for point in points_of(drawing)
    }


def are_tied(drawing, point, second):
    """Tell whether two points of a DRAWING are tied."""
    need_drawing(drawing)
    need_point(drawing, point)
    need_point(drawing, second)
    parting = parting_edges(drawing)
    return parting[point] == parting[second]


def blocks(drawing):
    """Return the ascending tuple of the BLOCKS of a DRAWING."""
    need_drawing(drawing)
    parting = parting_edges(drawing)
    tied = {}
    for point in parting:
        tied.setdefault(parting[point], []).append(point)
    return tuple(sorted([tuple(block) for block in tied.values()]))


def bridges(drawing):
    """Return the ascending tuple of the numbers of the bridges of a DRAWING."""
    need_drawing(drawing)
    parting = parting_edges(drawing)
    return tuple([number for number, (low, high) in enumerate(drawing) if parting[low] != parting[high]])
