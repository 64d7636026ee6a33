"""Texts of DRAWINGS and COMPANIES, told and read."""

from fallcuts.companies import MOST_DRAWINGS, need_company
from fallcuts.drawings import need_drawing
from fallcuts.errors import BadText

NONE = "none"


def pairs_text(pairs):
    """Return the text of pairs of integers, "A-B" for each, or "none" where there are none."""
    return " ".join([f"{low}-{high}" for low, high in pairs]) or NONE


def drawing_text(drawing):
    """Return the text of a DRAWING."""
    return pairs_text(need_drawing(drawing))


def company_text(company):
    """Return the text of a COMPANY."""
    return "\n".join([drawing_text(drawing) for drawing in need_company(company)])


def is_number(word):
    """Tell whether a word is an integer of one or two figures, without needless zeros."""
    if not word.isascii() or not word.isdigit():
        return False
    return len(word) == 1 or (len(word) == 2 and word[0] != "0")


def is_pair(word):
    """Tell whether a word is two integers with "-" between."""
    # Where there is no "-", what stands behind it is no integer, but "".
    low, _, high = word.partition("-")
    return is_number(low) and is_number(high)


def read_line(number, line):
    """Return the tuple of the pairs of integers in a line; refuse a word that cannot stand there by its form."""
    words = line.split(" ")
    if words[0] == NONE:
        if len(words) > 1:
            raise BadText(number, 1)
        return ()
    for at, word in enumerate(words):
        if not is_pair(word):
            raise BadText(number, at)
    return tuple([tuple([int(figures) for figures in word.split("-")]) for word in words])


def read_lines(text, most):
    """Return the tuple of what stands in the lines of a text, in turn; refuse more lines than the most."""
    if not isinstance(text, str):
        raise BadText(None, None)
    lines = text.split("\n")
    read = tuple([read_line(number, line) for number, line in enumerate(lines[:most])])
    if len(lines) > most:
        raise BadText(most, 0)
    return read


def read_drawing(text):
    """Return the DRAWING of a text; refuse anything else."""
    return need_drawing(read_lines(text, 1)[0])


def read_company(text):
    """Return the COMPANY of a text; refuse anything else."""
    return need_company(read_lines(text, MOST_DRAWINGS))
