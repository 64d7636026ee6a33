"""WORTHS: the CARRYLESS SUM, and the WORTH of a DRAWING, told by its BLOCKS and bridges."""

from fallcuts.drawings import behind, is_whole, need_drawing
from fallcuts.errors import BadNumber
from fallcuts.rings import parting_edges


def carryless(numbers):
    """Return the CARRYLESS SUM of a tuple of integers from 0 on; refuse anything else."""
    if not isinstance(numbers, tuple) or not all([is_whole(number) and number >= 0 for number in numbers]):
        raise BadNumber(numbers)
    total = 0
    for number in numbers:
        total ^= number
    return total


def worth(drawing):
    """Return the WORTH of a DRAWING."""
    need_drawing(drawing)
    # The points of a BLOCK, and of no other one, are parted from the ground by the same EDGES.
    parting = parting_edges(drawing)
    standing = {block: 0 for block in parting.values()}
    # The farther an EDGE is from the ground the sooner it comes, and the bridge
    # that leads to a BLOCK comes behind all that stands on it.
    far_first = sorted(drawing, key=lambda edge: -len(parting[edge[0]]) - len(parting[edge[1]]))
    for low, high in far_first:
        near, beyond = sorted([parting[low], parting[high]], key=len)
        standing[near] ^= 1 if near == beyond else 1 + standing[beyond]
    return standing[()]


def worths_behind(drawing):
    """Return the tuple of the WORTHS of the DRAWINGS behind all CUTS of a DRAWING, in turn."""
    need_drawing(drawing)
    return tuple([worth(behind(drawing, cut)) for cut in range(len(drawing))])
