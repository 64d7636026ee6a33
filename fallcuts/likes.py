"""Whether DRAWINGS are alike, so that one can stand for the other, and the PAPER on it."""

from fallcuts.drawings import is_whole, need_drawing
from fallcuts.errors import BadPaper
from fallcuts.forms import word_of
from fallcuts.steps import check_worth, worth_paper
from fallcuts.worths import worth

FORMS = (("alike", 3), ("apart", 2))


def are_alike(one, other):
    """Tell whether two DRAWINGS are alike."""
    return worth(one) == worth(other)


def alike_paper(one, other):
    """Return a PAPER on whether two DRAWINGS are alike."""
    if are_alike(one, other):
        return "alike", worth_paper(one), worth_paper(other)
    return "apart", worth(one)


def shows_alike(one, other, paper, second):
    """Tell whether two values are PAPERS on the WORTHS of two DRAWINGS, with stalks as long."""
    try:
        return check_worth(one, paper) == check_worth(other, second)
    except BadPaper:
        return False


def shows_apart(one, other, number):
    """Tell whether any value is the number of EDGES of a stalk beside which just one of two DRAWINGS is lost."""
    # Beside a stalk a DRAWING is lost if its WORTH is as great, so no integer but one from 0 to 16 shows it.
    return is_whole(number) and (worth(one) == number) != (worth(other) == number)


def check_alike(one, other, paper):
    """Return the first word of a PAPER on two DRAWINGS that holds; refuse anything else."""
    need_drawing(one)
    need_drawing(other)
    word = word_of(paper, FORMS)
    if word == "alike":
        holds = shows_alike(one, other, paper[1], paper[2])
    else:
        holds = shows_apart(one, other, paper[1])
    if not holds:
        raise BadPaper(word)
    return word
