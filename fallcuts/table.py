"""A table with a COMPANY, on which MOVES are made, taken back and done again."""

from fallcuts.companies import edges_in, moved, need_company, winning_moves
from fallcuts.drawings import in_order, is_whole
from fallcuts.errors import BadNumber, NothingLeft


def need_many(many, row):
    """Refuse what is no integer from 1 on, or more than the things of a row are."""
    if not is_whole(many) or many < 1:
        raise BadNumber(many)
    if many > len(row):
        raise NothingLeft(many)


class Trial:
    """What lays a table back, behind a block, to how it was when the block began."""

    def __init__(self, held):
        self._held = held
        self._made = ()
        self._undone = ()

    def __enter__(self):
        self._made = self._held._made
        self._undone = self._held._undone
        return self._held

    def __exit__(self, kind, value, trace):
        self._held._made = self._made
        self._held._undone = self._undone


class Table:
    """A table with a COMPANY.

    What was made and what was taken back are tuples of pairs, a MOVE and the
    COMPANY behind it, in the order in which they are made or done again. They
    are never changed, only others put in their place, so that a trial and a
    copy need but the tuples as they stand.
    """

    def __init__(self, company):
        # A DRAWING is in its order; it is put so again to make plain tuples of it.
        self._first = tuple([in_order(drawing) for drawing in need_company(company)])
        self._made = ()
        self._undone = ()

    @property
    def company(self):
        """The COMPANY of now."""
        return self._made[-1][1] if len(self._made) > 0 else self._first

    def cut(self, move):
        """Make a MOVE; return how many EDGES fell, with the one that is cut."""
        held = self.company
        left = moved(held, move)
        self._made = (*self._made, (tuple(move), left))
        self._undone = ()
        return edges_in(held) - edges_in(left)

    def turn(self):
        """Return whose turn it is, 0 or 1."""
        return len(self._made) % 2

    def answer(self):
        """Return the least winning MOVE, None if there is none."""
        winning = winning_moves(self.company)
        return winning[0] if len(winning) > 0 else None

    def undo(self, many=1):
        """Take the last MOVES back."""
        need_many(many, self._made)
        at = len(self._made) - many
        self._undone = self._made[at:] + self._undone
        self._made = self._made[:at]

    def redo(self, many=1):
        """Do those MOVES again that were taken back, as long as none was made since."""
        need_many(many, self._undone)
        self._made = self._made + self._undone[:many]
        self._undone = self._undone[many:]

    def copy(self):
        """Return a table that stands likewise and goes on by itself."""
        other = Table(self._first)
        other._made = self._made
        other._undone = self._undone
        return other

    def trial(self):
        """Return an object for one with statement, behind the block of which the table is as it was."""
        return Trial(self)

    def __len__(self):
        """Return how many MOVES were made and not taken back."""
        return len(self._made)

    def __eq__(self, other):
        """Tell whether another object is a Table that began with the same COMPANY, with the same MOVES."""
        # The COMPANIES behind the same MOVES are the same, so it does no harm to compare them, too.
        return isinstance(other, Table) and self._first == other._first and self._made == other._made


def under(manager, deed):
    """Return what a deed returns, called with what the manager gives for a with statement."""
    with manager as one:
        return deed(one)
    # Only behind an error that the manager kept from going further does the function go on here.
    return None
