"""The words of [7] and [8] taken literally: stalks, STEPS, and what a PAPER on a WORTH shows."""

import itertools

from tests.samples import tied_by_words


def points_by_words(edges):
    return sorted({0} | {point for edge in edges for point in edge})


def walks(drawing, start, ahead=()):
    """Return all rows of unlike edges that lead on from a point, each with the points that it leads to."""
    found = []
    for number, edge in enumerate(drawing):
        if start in edge and number not in ahead:
            end = edge[0] if edge[1] == start else edge[1]
            found.append(((number,), (end,)))
            found += [((number, *row), (end, *ends)) for row, ends in walks(drawing, end, (*ahead, number))]
    return found


def stalks_by_words(drawing):
    """Return a dict of the points of all stalks, by the point where one stands and the first one of it."""
    found = {}
    for root in points_by_words(drawing):
        for row, points in walks(drawing, root):
            others = [edge for number, edge in enumerate(drawing) if number not in row]
            alone = not any(set(edge) & set(points) for edge in others)
            if alone and len(set(points)) == len(points) and not {0, root} & set(points):
                assert (root, points[0]) not in found
                found[root, points[0]] = points
    return found


def is_stalk_by_words(drawing):
    found = stalks_by_words(drawing)
    return drawing == () or any(root == 0 and len(found[root, by]) == len(drawing) for root, by in found)


def steps_by_words(drawing):
    """Return the list of all STEPS, in no order."""
    points = points_by_words(drawing)
    found = sorted(stalks_by_words(drawing))
    steps = [("loop", a) for a in points if (a, a) in drawing]
    steps += [("join", a, b) for a in points for b in points if a < b and tied_by_words(drawing, a, b)]
    return steps + [("fork", a, b, c) for a, b in found for other, c in found if a == other and b < c]


def free_by_words(edges, many):
    taken = points_by_words(edges)
    return list(itertools.islice((point for point in itertools.count(1) if point not in taken), many))


def stepped_by_words(drawing, step):
    """Return the drawing behind a STEP."""
    word, at, *others = step
    left = list(drawing)
    if word == "join":
        left = [[at if point == others[0] else point for point in edge] for edge in drawing]
    elif word == "loop":
        left.remove((at, at))
        left.append((at, *free_by_words(drawing, 1)))
    else:
        one, other = [stalks_by_words(drawing)[at, by] for by in others]
        left = [edge for edge in drawing if not set(edge) & {*one, *other}]
        row = [at, *free_by_words(left, len(one) ^ len(other))]
        left += [row[k:k + 2] for k in range(len(row) - 1)]
    return tuple(sorted(tuple(sorted(edge)) for edge in left))


def verdict_by_words(drawing, paper):
    """Return the WORTH by a PAPER, or what BadPaper is made with; of a DRAWING with few edges."""
    if not isinstance(paper, tuple) or len(paper) > 100:
        return "form"
    for number, step in enumerate(paper):
        # Of equal steps one may have True in the place of 1.
        if repr(step) not in [repr(right) for right in steps_by_words(drawing)]:
            return f"step {number}"
        drawing = stepped_by_words(drawing, step)
    return len(drawing) if is_stalk_by_words(drawing) else "end"
