"""COMPANIES: DRAWINGS beside one another, who wins them, by which MOVES, and the PAPER on it."""

from fallcuts.drawings import behind, in_order, is_whole, need_drawing
from fallcuts.errors import BadCompany, BadDrawing, BadMove, BadPaper
from fallcuts.forms import word_of
from fallcuts.steps import check_worth, worth_paper
from fallcuts.worths import carryless, worth, worths_behind

MOST_DRAWINGS = 4
FORMS = (("won", 3), ("lost", 2))


def need_company(thing):
    """Return a COMPANY as it is; refuse anything else."""
    if not isinstance(thing, tuple) or not 1 <= len(thing) <= MOST_DRAWINGS:
        raise BadCompany(None)
    for number, drawing in enumerate(thing):
        try:
            need_drawing(drawing)
        except BadDrawing:
            raise BadCompany(number) from None
    return thing


def edges_in(company):
    """Return how many EDGES a COMPANY has in all."""
    return sum([len(drawing) for drawing in company])


def is_move(company, value):
    """Tell whether any value is a MOVE in a COMPANY."""
    if not isinstance(value, tuple) or len(value) != 2 or not all([is_whole(part) for part in value]):
        return False
    number, cut = value
    return 0 <= number < len(company) and 0 <= cut < len(company[number])


def moved(company, move):
    """Return the COMPANY behind a MOVE."""
    need_company(company)
    if not is_move(company, move):
        raise BadMove(move)
    number, cut = move
    # A DRAWING is in its order; it is put so again to make plain tuples of it.
    return tuple([
        behind(drawing, cut) if at == number else in_order(drawing)
        for at, drawing in enumerate(company)
    ])


def company_worth(company):
    """Return the worth of a COMPANY."""
    return carryless(tuple([worth(drawing) for drawing in need_company(company)]))


def is_won(company):
    """Tell whether a COMPANY is won."""
    return company_worth(company) != 0


def winning_moves(company):
    """Return the ascending tuple of all winning MOVES in a COMPANY."""
    total = company_worth(company)
    moves = []
    for number, drawing in enumerate(company):
        # With this WORTH in the place of its own one the worth of the COMPANY is 0.
        wanted = total ^ worth(drawing)
        moves += [(number, cut) for cut, left in enumerate(worths_behind(drawing)) if left == wanted]
    return tuple(moves)


def worth_papers(company):
    """Return the tuple of a PAPER on the WORTH of each DRAWING of a COMPANY, in turn."""
    return tuple([worth_paper(drawing) for drawing in company])


def company_paper(company):
    """Return a PAPER on a COMPANY."""
    moves = winning_moves(company)
    if moves:
        return "won", moves[0], worth_papers(moved(company, moves[0]))
    return "lost", worth_papers(company)


def worths_by(company, papers):
    """Return the tuple of the WORTHS of the DRAWINGS of a COMPANY by a PAPER on each; refuse anything else."""
    if not isinstance(papers, tuple) or len(papers) != len(company):
        raise BadPaper("papers")
    try:
        return tuple([check_worth(drawing, paper) for drawing, paper in zip(company, papers)])
    except BadPaper:
        raise BadPaper("papers") from None


def check_company(company, paper):
    """Return the first word of a PAPER on a COMPANY that holds; refuse anything else."""
    left = need_company(company)
    word = word_of(paper, FORMS)
    if word == "won":
        if not is_move(company, paper[1]):
            raise BadPaper("move")
        left = moved(company, paper[1])
    if carryless(worths_by(left, paper[-1])) != 0:
        raise BadPaper("sum")
    return word
