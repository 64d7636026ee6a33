"""STEPS, each of which leaves the WORTH of a DRAWING as it is, and the PAPERS made of them."""

from fallcuts.drawings import GROUND, free_points, in_order, is_whole, need_drawing, points_of, without
from fallcuts.errors import BadPaper, BadStep
from fallcuts.rings import are_tied, blocks

MOST_STEPS = 100
SIZES = {"join": 3, "loop": 2, "fork": 4}


def far_ends(drawing, point):
    """Return the list of the other points of all EDGES at a point; that of a loop is the point itself."""
    return [high if low == point else low for low, high in drawing if point in (low, high)]


def stalk_points(drawing, root, point):
    """Return the tuple of the points of the stalk at a root by a point, in turn; () if there is none."""
    row = []
    ahead, here = root, point
    while here is not None:
        ends = far_ends(drawing, here)
        if here in (GROUND, root) or here in row or ahead not in ends or len(ends) > 2:
            return ()
        row.append(here)
        ends.remove(ahead)
        ahead, here = here, (ends[0] if ends else None)
    return tuple(row)


def stalks_at(drawing, root):
    """Return the ascending list of the points by which stalks stand at a root."""
    return [point for point in points_of(drawing) if stalk_points(drawing, root, point)]


def is_stalk(drawing):
    """Tell whether a DRAWING is a stalk."""
    # The first EDGE lies at the ground; so does no other one if all are one stalk there.
    return len(drawing) == 0 or len(stalk_points(drawing, GROUND, drawing[0][1])) == len(drawing)


def is_join(drawing, low, high):
    """Tell whether two integers are tied points of a DRAWING, the lesser one first."""
    points = points_of(drawing)
    return low < high and low in points and high in points and are_tied(drawing, low, high)


def is_loop(drawing, point):
    """Tell whether a loop at an integer is there."""
    return (point, point) in drawing


def is_fork(drawing, root, low, high):
    """Tell whether stalks stand at an integer by two others, the lesser one first."""
    return low < high and all([stalk_points(drawing, root, point) for point in (low, high)])


def joined(drawing, low, high):
    """Return the DRAWING in which one point becomes another one in all EDGES."""
    return in_order([[low if point == high else point for point in edge] for edge in drawing])


def opened(drawing, point):
    """Return the DRAWING in which an EDGE to a new point stands in the place of a loop."""
    left = without(drawing, drawing.index((point, point)))
    return in_order([*left, (point, *free_points(drawing, 1))])


def forked(drawing, root, low, high):
    """Return the DRAWING in which one stalk stands in the place of two."""
    one = stalk_points(drawing, root, low)
    other = stalk_points(drawing, root, high)
    left = [edge for edge in drawing if not any([point in one + other for point in edge])]
    row = [root, *free_points(left, len(one) ^ len(other))]
    return in_order(left + list(zip(row, row[1:])))


def has_form(value):
    """Tell whether a value is a word of STEPS with as many integers as stand behind it."""
    if not isinstance(value, tuple) or len(value) == 0 or not isinstance(value[0], str):
        return False
    return SIZES.get(value[0]) == len(value) and all([is_whole(point) for point in value[1:]])


def is_step(drawing, value):
    """Tell whether any value is a STEP of a DRAWING."""
    need_drawing(drawing)
    if not has_form(value):
        return False
    word, *points = value
    if word == "join":
        return is_join(drawing, *points)
    if word == "loop":
        return is_loop(drawing, *points)
    return is_fork(drawing, *points)


def stepped(drawing, step):
    """Return the DRAWING behind a STEP; refuse anything else."""
    if not is_step(drawing, step):
        raise BadStep(step)
    word, *points = step
    if word == "join":
        return joined(drawing, *points)
    if word == "loop":
        return opened(drawing, *points)
    return forked(drawing, *points)


def pairs_of(row):
    """Return the list of all pairs of two things of an ascending row, the lesser one first."""
    return [(low, high) for low in row for high in row if low < high]


def all_steps(drawing):
    """Return the ascending tuple of all STEPS of a DRAWING."""
    points = points_of(drawing)
    joins = [("join", *pair) for block in blocks(drawing) for pair in pairs_of(block)]
    loops = [("loop", point) for point in points if is_loop(drawing, point)]
    forks = [("fork", root, *pair) for root in points for pair in pairs_of(stalks_at(drawing, root))]
    return tuple(sorted(joins + loops + forks))


def worth_paper(drawing):
    """Return a PAPER on the WORTH of a DRAWING."""
    steps = []
    left = need_drawing(drawing)
    # Any STEP will do: each join takes one of at most 16 points from a ring, each loop
    # one of at most 16 EDGES from all rings, and each fork one of at most 16 ends of
    # stalks, of which only loops make new ones, so that far fewer than 100 are taken.
    while not is_stalk(left):
        steps.append(all_steps(left)[0])
        left = stepped(left, steps[-1])
    return tuple(steps)


def check_worth(drawing, paper):
    """Return the WORTH of a DRAWING by a PAPER that holds; refuse anything else."""
    left = need_drawing(drawing)
    if not isinstance(paper, tuple) or len(paper) > MOST_STEPS:
        raise BadPaper("form")
    for number, step in enumerate(paper):
        try:
            left = stepped(left, step)
        except BadStep:
            raise BadPaper(number) from None
    if not is_stalk(left):
        raise BadPaper("end")
    return len(left)
