"""PLACES for one EDGE more in a DRAWING: all of them, those that lead to a WORTH, and those that fit a LOG."""

from fallcuts.companies import company_worth, need_company
from fallcuts.drawings import MOST_EDGES, free_points, in_order, is_edge, need_drawing, need_small, points_of
from fallcuts.errors import BadCompany, BadLog, BadNumber, TooMany
from fallcuts.worths import worth

MOST_PAIRS = 12


def need_room(drawing):
    """Return a DRAWING of fewer than 16 EDGES as it is; refuse anything else."""
    need_drawing(drawing)
    if len(drawing) == MOST_EDGES:
        raise TooMany(MOST_EDGES)
    return drawing


def places(drawing):
    """Return the ascending tuple of all PLACES in a DRAWING."""
    points = points_of(need_room(drawing))
    inner = [(low, high) for low in points for high in points if low <= high]
    outer = [(point, free) for free in free_points(drawing, 1) for point in points]
    return in_order(inner + outer)


def with_edge(drawing, place):
    """Return the DRAWING with an EDGE put at a PLACE."""
    need_room(drawing)
    if not is_edge(place) or place not in places(drawing):
        raise BadNumber(place)
    return in_order([*drawing, place])


def worths_with(drawing):
    """Return a dict of all PLACES in a DRAWING, ascending, each with the WORTH that an EDGE put there leads to."""
    return {place: worth(in_order([*drawing, place])) for place in places(drawing)}


def places_to(drawing, number):
    """Return the ascending tuple of the PLACES with which the WORTH of a DRAWING is a number."""
    need_room(drawing)
    need_small(number)
    return tuple([place for place, found in worths_with(drawing).items() if found == number])


def is_entry(thing):
    """Tell whether a value is a pair of a LOG: a COMPANY, and True or False."""
    if not isinstance(thing, tuple) or len(thing) != 2 or not isinstance(thing[1], bool):
        return False
    try:
        need_company(thing[0])
    except BadCompany:
        return False
    return True


def need_log(thing):
    """Return a LOG as it is; refuse anything else."""
    if not isinstance(thing, tuple) or len(thing) > MOST_PAIRS:
        raise BadLog(None)
    for number, entry in enumerate(thing):
        if not is_entry(entry):
            raise BadLog(number)
    return thing


def fitting_places(drawing, log):
    """Return the ascending tuple of the PLACES in a DRAWING that fit a LOG."""
    need_room(drawing)
    # Beside a COMPANY a DRAWING is lost just if its WORTH is that of the COMPANY.
    seen = [(company_worth(company), lost) for company, lost in need_log(log)]
    return tuple([
        place for place, found in worths_with(drawing).items()
        if all([(found == total) == lost for total, lost in seen])
    ])
