"""A desk at which a table is led by lines of text."""

from fallcuts.companies import edges_in, is_won, winning_moves
from fallcuts.errors import BadMove, NothingLeft
from fallcuts.table import Table
from fallcuts.texts import NONE, company_text, is_number, pairs_text, read_company
from fallcuts.worths import worth

REFUSED = "no"


def say_worths(table):
    """Tell the WORTH of each DRAWING."""
    return " ".join([str(worth(drawing)) for drawing in table.company])


def say_won(table):
    """Tell whether the COMPANY is won or lost."""
    return "won" if is_won(table.company) else "lost"


def say_answer(table):
    """Tell both numbers of the least winning MOVE."""
    move = table.answer()
    return NONE if move is None else f"{move[0]} {move[1]}"


def say_moves(table):
    """Tell all winning MOVES."""
    return pairs_text(winning_moves(table.company))


def say_turn(table):
    """Tell whose turn it is."""
    return str(table.turn())


def say_edges(table):
    """Tell how many EDGES are left in all."""
    return str(edges_in(table.company))


def say_show(table):
    """Tell the text of the COMPANY in one line."""
    return company_text(table.company).replace("\n", " / ")


def say_undo(table):
    """Take a MOVE back, and tell whether there was one."""
    try:
        table.undo()
    except NothingLeft:
        return "nothing"
    return "done"


def say_redo(table):
    """Do a MOVE again, and tell whether there was one."""
    try:
        table.redo()
    except NothingLeft:
        return "nothing"
    return "done"


def say_cut(table, words):
    """Make the MOVE of two words, and tell how many EDGES fell."""
    if len(words) != 2 or not all([is_number(word) for word in words]):
        return REFUSED
    try:
        return str(table.cut((int(words[0]), int(words[1]))))
    except BadMove:
        return REFUSED


SAYINGS = {
    "worths": say_worths,
    "won": say_won,
    "answer": say_answer,
    "moves": say_moves,
    "turn": say_turn,
    "edges": say_edges,
    "show": say_show,
    "undo": say_undo,
    "redo": say_redo,
}


class Desk:
    """A desk with a table for the COMPANY of a text."""

    def __init__(self, text):
        self._table = Table(read_company(text))

    @property
    def table(self):
        """The very Table."""
        return self._table

    def say(self, line):
        """Return the answer to a line, "no" to anything that is none."""
        if not isinstance(line, str):
            return REFUSED
        if line in SAYINGS:
            saying = SAYINGS[line]
            return saying(self._table)
        word, *others = line.split(" ")
        return say_cut(self._table, others) if word == "cut" else REFUSED
