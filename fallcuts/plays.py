"""PLAYS: rows of MOVES behind which no EDGE is left, the longest, the shortest and the BEST one."""

from fallcuts.companies import edges_in, is_move, moved, need_company, winning_moves
from fallcuts.drawings import GROUND


def is_play(company, value):
    """Tell whether any value is a PLAY of a COMPANY."""
    left = need_company(company)
    if not isinstance(value, tuple):
        return False
    for move in value:
        if not is_move(left, move):
            return False
        left = moved(left, move)
    return edges_in(left) == 0


def longest(company):
    """Return the greatest number of MOVES of a PLAY of a COMPANY."""
    # As long as EDGES are left, one of them can be cut so that no other one falls.
    return edges_in(need_company(company))


def shortest(company):
    """Return the least number of MOVES of a PLAY of a COMPANY."""
    # An EDGE at the ground goes only by its own CUT, and all others fall with the last one of these.
    return sum([1 for drawing in need_company(company) for edge in drawing if edge[0] == GROUND])


def best_move(company):
    """Return the least winning MOVE of a COMPANY with EDGES, or, where there is none, the least of all."""
    winning = winning_moves(company)
    if winning:
        return winning[0]
    # The least of all cuts the first EDGE of the first DRAWING that has any.
    return min([number for number, drawing in enumerate(company) if len(drawing) > 0]), 0


def best_play(company):
    """Return the BEST PLAY of a COMPANY."""
    moves = []
    left = need_company(company)
    while edges_in(left) > 0:
        moves.append(best_move(left))
        left = moved(left, moves[-1])
    return tuple(moves)
