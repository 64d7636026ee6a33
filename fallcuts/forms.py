"""The form of PAPERS that begin with a word."""

from fallcuts.errors import BadPaper


def word_of(paper, forms):
    """Return the first word of a PAPER that has one of the forms, pairs of a word and a size."""
    if not isinstance(paper, tuple) or len(paper) == 0 or not isinstance(paper[0], str):
        raise BadPaper("form")
    if (paper[0], len(paper)) not in forms:
        raise BadPaper("form")
    return paper[0]
