"""Drawings: tuples of EDGES that hang on the ground, and what falls behind a cut."""

from fallcuts.errors import BadDrawing, BadNumber, BadPoint

MOST_EDGES = 16
MOST_POINT = 16
GROUND = 0


def is_whole(thing):
    """Tell whether a value is an integer; True and False are none."""
    return isinstance(thing, int) and not isinstance(thing, bool)


def is_edge(thing):
    """Tell whether a value is an EDGE."""
    if not isinstance(thing, tuple) or len(thing) != 2:
        return False
    low, high = thing
    return is_whole(low) and is_whole(high) and 0 <= low <= high <= MOST_POINT


def reached(edges):
    """Return the ascending tuple of the points to which EDGES lead from the ground."""
    held = {GROUND: True}
    grown = True
    while grown:
        grown = False
        for low, high in edges:
            if (low in held) != (high in held):
                held[low] = True
                held[high] = True
                grown = True
    return tuple(sorted(list(held)))


def without(drawing, cut):
    """Return the EDGES of a DRAWING but one, those that no longer hang among them."""
    return drawing[:cut] + drawing[cut + 1:]


def in_order(pairs):
    """Return the tuple of the EDGES between pairs of points, in their order."""
    # Plain tuples are made of whatever pairs there are.
    return tuple(sorted([(min(pair), max(pair)) for pair in pairs]))


def free_points(edges, many):
    """Return the list of so many least integers from 1 on that are no points of EDGES."""
    taken = reached(edges)
    # EDGES that hang have at most as many points beside the ground as they are.
    return [point for point in range(1, len(edges) + many + 1) if point not in taken][:many]


def need_drawing(thing):
    """Return a DRAWING as it is; refuse anything else."""
    if not isinstance(thing, tuple) or len(thing) > MOST_EDGES:
        raise BadDrawing(None)
    for number, edge in enumerate(thing):
        if not is_edge(edge) or (number > 0 and edge < thing[number - 1]):
            raise BadDrawing(number)
    held = reached(thing)
    # The two points of an EDGE are reached both or neither, so one of them tells.
    if any([edge[0] not in held for edge in thing]):
        raise BadDrawing("ground")
    return thing


def need_small(number):
    """Return an integer from 0 to 16, as many as EDGES or a WORTH can be, as it is; refuse anything else."""
    if not is_whole(number) or not 0 <= number <= MOST_EDGES:
        raise BadNumber(number)
    return number


def need_cut(drawing, cut):
    """Return a CUT of a DRAWING as it is; refuse anything else."""
    if not is_whole(cut) or not 0 <= cut < len(drawing):
        raise BadNumber(cut)
    return cut


def need_point(drawing, point):
    """Return a point of a DRAWING as it is; refuse anything else."""
    if not is_whole(point) or point not in points_of(drawing):
        raise BadPoint(point)
    return point


def points_of(drawing):
    """Return the ascending tuple of the points of a DRAWING."""
    # All EDGES hang, so the points at which some EDGE lies are those that are reached.
    return reached(need_drawing(drawing))


def falling(drawing, cut):
    """Return the ascending tuple of the numbers of the EDGES that fall behind a CUT."""
    need_drawing(drawing)
    need_cut(drawing, cut)
    held = reached(without(drawing, cut))
    return tuple([number for number, edge in enumerate(drawing) if number != cut and edge[0] not in held])


def behind(drawing, cut):
    """Return the DRAWING behind a CUT."""
    fallen = falling(drawing, cut)
    # The pairs are made anew, so that they are plain tuples whatever tuples were passed.
    return tuple([
        (low, high) for number, (low, high) in enumerate(drawing)
        if number != cut and number not in fallen
    ])
