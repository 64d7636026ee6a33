"""Points [13] and [14]: fallcuts.places."""

import itertools
import random
import unittest

from fallcuts.companies import company_worth
from fallcuts.drawings import need_drawing
from fallcuts.errors import BadDrawing, BadLog, BadNumber, TooMany
from fallcuts.places import fitting_places, places, places_to, with_edge
from fallcuts.worths import worth
from tests.samples import (
    COMPANIES, DRAWINGS, EQUAL, EXAMPLE, NO_INTEGERS, WRONG_COMPANIES, WRONG_DRAWINGS, Edge, Refusals, chance_drawing,
    great_drawings, greater_drawings, least_beside, small_drawings, stalk, won_by_moves, worth_by_cuts)
from tests.words import points_by_words

FULL = DRAWINGS["sixteen in a row"]
FIFTEEN = {
    "row": FULL[:15],
    "bush": DRAWINGS["sixteen on the ground"][:15],
    "bush at the far points": DRAWINGS["sixteen on the ground"][1:],
    "alike": ((0, 1),) * 15,
    "loops": ((0, 0),) * 15,
    "all but the point 8": tuple((0, k) for k in range(1, 17) if k != 8),
    "ring": ((0, 1), (0, 14)) + tuple((k, k + 1) for k in range(1, 14)),
    "row from the far point": ((0, 16),) + tuple((k, k + 1) for k in range(2, 16)),
}

# A COMPANY without an EDGE, and a pair of a LOG.
NOTHING = ((),)
ENTRY = (NOTHING, True)

# Pairs of a value that is no LOG, and the number that is told of it.
WRONG_LOGS = [(wrong, None) for wrong in NO_INTEGERS if wrong not in [(), (0,)]] + [
    (0, None), (12, None), (1.5, None), ("log", None), ([ENTRY], None), ({ENTRY: True}, None), ({0: ENTRY}, None),
    ((ENTRY,) * 13, None), ((None,) * 13, None),
    (ENTRY, 0), ((EQUAL,), 0), (((),), 0), (((EXAMPLE,),), 0), ((NOTHING,), 0), (((NOTHING, True, True),), 0),
    ((list(ENTRY),), 0), (({NOTHING: True, 0: 1},), 0), (("ab",), 0), (((True, NOTHING),), 0), (((EXAMPLE, True),), 0),
    ((((), True),), 0), (((EQUAL, True),), 0), ((([()], True),), 0), (((((),) * 5, True),), 0),
    ((((EXAMPLE,), True), None), 1), ((ENTRY, (), None), 1), ((ENTRY, (NOTHING, False), ENTRY, (NOTHING, 1)), 3),
    ((ENTRY,) * 11 + ((NOTHING, 0),), 11), ((ENTRY, ENTRY, ([EXAMPLE], False), None), 2),
]
WRONG_LOGS += [((thing,), 0) for thing in NO_INTEGERS] + [((ENTRY, thing), 1) for thing in NO_INTEGERS]
WRONG_LOGS += [(((NOTHING, lost),), 0) for lost in NO_INTEGERS[2:] + [0, 1, "True"]]
WRONG_LOGS += [((ENTRY, (wrong, False)), 1) for wrong, _ in WRONG_COMPANIES]


def roomy_drawings():
    """Return DRAWINGS of fewer than 16 EDGES."""
    made = small_drawings()[::3] + greater_drawings() + list(DRAWINGS.values()) + list(FIFTEEN.values())
    made += [((0, 16),), ((0, 9), (9, 16)), ((0, 16), (16, 16)), ((0, 2), (2, 5), (5, 5))]
    return [drawing for drawing in made if len(drawing) < 16]


def places_by_words(drawing):
    """Return the list of all PLACES in a drawing, ascending, by the words of [13]."""
    points = points_by_words(drawing)
    free = least_beside(points)
    return [
        (low, high) for low in range(17) for high in range(low, 17)
        if (low in points and high in points) or (low in points and high == free) or (high in points and low == free)]


def put(drawing, place):
    return tuple(sorted([*drawing, place]))


class PlacesTest(Refusals):

    def test_some_drawings(self):
        for drawing, known in [
            ((), ((0, 0), (0, 1))), (((0, 0),), ((0, 0), (0, 1))),
            (((0, 2),), ((0, 0), (0, 1), (0, 2), (1, 2), (2, 2))),
            (((0, 16),), ((0, 0), (0, 1), (0, 16), (1, 16), (16, 16))),
            (((0, 1), (1, 3)), ((0, 0), (0, 1), (0, 2), (0, 3), (1, 1), (1, 2), (1, 3), (2, 3), (3, 3))),
        ]:
            self.assertEqual(places(drawing), known, drawing)

    def test_by_the_words(self):
        for drawing in roomy_drawings():
            told = places(drawing)
            self.assertEqual(told, tuple(places_by_words(drawing)), drawing)
            self.assertEqual({type(thing) for thing in (told, *told)}, {tuple})

    def test_drawings_of_fifteen_edges(self):
        self.assertEqual(len(places(FIFTEEN["bush"])), 16 * 17 // 2 + 16)
        self.assertEqual(places(FIFTEEN["loops"]), ((0, 0), (0, 1)))
        self.assertIn((15, 16), places(FIFTEEN["row"]))
        self.assertIn((1, 16), places(FIFTEEN["bush at the far points"]))
        self.assertIn((0, 8), places(FIFTEEN["all but the point 8"]))
        self.assertIn((8, 16), places(FIFTEEN["all but the point 8"]))

    def test_too_many_edges(self):
        for drawing in great_drawings() + [drawing for drawing in DRAWINGS.values() if len(drawing) == 16]:
            self.tells(TooMany, "most", 16, places, drawing)

    def test_wrong_drawings(self):
        for wrong, place in WRONG_DRAWINGS:
            self.tells(BadDrawing, "place", place, places, wrong)


class WithEdgeTest(Refusals):

    def test_all_places(self):
        for drawing in roomy_drawings():
            for place in places(drawing):
                told = with_edge(drawing, place)
                self.assertEqual(told, put(drawing, place), (drawing, place))
                self.assertEqual(len(need_drawing(told)), len(drawing) + 1)

    def test_all_other_pairs(self):
        for drawing in roomy_drawings()[::5]:
            known = places_by_words(drawing)
            for pair in itertools.product(range(-1, 19), repeat=2):
                if pair not in known:
                    self.tells(BadNumber, "given", pair, with_edge, drawing, pair)

    def test_what_is_no_edge(self):
        for drawing in [(), EXAMPLE, FIFTEEN["bush"], ((0, 16),)]:
            wrongs = NO_INTEGERS + [0, (0, 0, 0), [0, 0], {0: 0}, ((0, 0),), "00", "0-0", 10 ** 39, (0, 10 ** 39)]
            wrongs += [pair for wrong in NO_INTEGERS for pair in [(wrong, 0), (0, wrong), (wrong, wrong)]]
            for wrong in wrongs:
                self.refuses(BadNumber, "given", wrong, with_edge, drawing, wrong)

    def test_too_many_edges_ahead_of_wrong_places(self):
        for drawing in great_drawings():
            for place in [(0, 0), (0, 17), None, []]:
                self.tells(TooMany, "most", 16, with_edge, drawing, place)

    def test_wrong_drawings_ahead_of_all(self):
        for wrong, place in WRONG_DRAWINGS:
            for more in [(0, 0), (0, 17), None]:
                self.tells(BadDrawing, "place", place, with_edge, wrong, more)

    def test_tuples_that_are_told_are_plain(self):
        told = with_edge((Edge(0, 1), Edge(1, 1)), Edge(0, 1))
        self.assertEqual(told, ((0, 1), (0, 1), (1, 1)))
        self.assertEqual({type(thing) for thing in (told, *told)}, {tuple})


class PlacesToTest(Refusals):

    def test_some_drawings(self):
        self.assertEqual(places_to((), 1), ((0, 0), (0, 1)))
        self.assertEqual(places_to((), 0), ())
        self.assertEqual(places_to(((0, 1),), 0), ((0, 0), (0, 1), (0, 2)))
        self.assertEqual(places_to(((0, 1),), 2), ((1, 1), (1, 2)))
        self.assertEqual(places_to(FIFTEEN["ring"], 2), ())
        # Beside an EDGE at a point with an odd number an even number of EDGES goes on.
        known = tuple((point, end) for point in range(1, 16, 2) for end in (point, 16))
        self.assertEqual(places_to(FIFTEEN["row"], 16), known)

    def test_small_drawings_by_all_cuts(self):
        for drawing in small_drawings()[::2] + [((0, 16),), ((0, 9), (9, 16)), ((0, 16), (16, 16))]:
            worths = {place: worth_by_cuts(put(drawing, place)) for place in places_by_words(drawing)}
            for number in range(7):
                known = tuple(place for place in worths if worths[place] == number)
                self.assertEqual(places_to(drawing, number), known, (drawing, number))

    def test_greater_drawings(self):
        chance = random.Random("room")
        made = [chance_drawing(chance, many, points) for many in (9, 12, 15) for points in (1, 4, 9, 17)]
        for drawing in made + list(FIFTEEN.values()):
            by_number = [places_to(drawing, number) for number in range(17)]
            self.assertEqual(sorted(place for row in by_number for place in row), places_by_words(drawing))
            for number, row in enumerate(by_number):
                self.assertEqual(list(row), sorted(row))
                self.assertTrue(all(worth(put(drawing, place)) == number for place in row))

    def test_the_least_and_the_greatest_number(self):
        for drawing in [(), EXAMPLE, FIFTEEN["bush"]]:
            self.assertEqual(places_to(drawing, 16), ())
            self.assertIsInstance(places_to(drawing, 0), tuple)

    def test_wrong_numbers(self):
        for drawing in [(), EXAMPLE, FIFTEEN["bush"]]:
            for wrong in NO_INTEGERS + [-1, 17, 10 ** 39, -10 ** 39, "1", (1,)]:
                self.refuses(BadNumber, "given", wrong, places_to, drawing, wrong)

    def test_too_many_edges_ahead_of_wrong_numbers(self):
        for drawing in great_drawings():
            for number in [0, 16, 17, None]:
                self.tells(TooMany, "most", 16, places_to, drawing, number)

    def test_wrong_drawings_ahead_of_all(self):
        for wrong, place in WRONG_DRAWINGS:
            for number in [0, 17, None]:
                self.tells(BadDrawing, "place", place, places_to, wrong, number)


def small_logs():
    """Return LOGS of few small COMPANIES."""
    entries = [(company, lost) for company in COMPANIES.values() for lost in (True, False)]
    logs = [()] + [(entry,) for entry in entries] + list(itertools.product(entries[::3], entries[1::5]))
    return logs + [tuple(entries[:12]), tuple((company, False) for company, _ in entries[::2])[:12]]


class FittingPlacesTest(Refusals):

    def test_small_drawings_by_all_moves(self):
        for drawing in small_drawings()[::40] + [((0, 16),), ((0, 3), (3, 16))]:
            if len(drawing) == 4:
                continue
            for log in small_logs()[::2]:
                known = tuple(
                    place for place in places_by_words(drawing)
                    if all(won_by_moves((put(drawing, place), *company)) is not lost for company, lost in log))
                self.assertEqual(fitting_places(drawing, log), known, (drawing, log))

    def test_the_empty_log(self):
        for drawing in roomy_drawings()[::4]:
            self.assertEqual(fitting_places(drawing, ()), places(drawing))

    def test_companies_of_four(self):
        for number in range(5):
            company = (stalk(number), (), ((0, 0), (0, 1)), ())
            self.assertEqual(company_worth(company), number)
            for drawing in [(), EXAMPLE, ((0, 1), (1, 2))]:
                lost = fitting_places(drawing, ((company, True),))
                self.assertEqual(lost, places_to(drawing, number))
                won = fitting_places(drawing, ((company, False),))
                self.assertEqual(sorted(lost + won), places_by_words(drawing))

    def test_drawings_of_fifteen_edges(self):
        for drawing in FIFTEEN.values():
            for number in (1, 2, 3, 8, 15):
                log = (((stalk(number),), True), ((stalk(number), (), stalk(16)), False), (NOTHING, False))
                self.assertEqual(fitting_places(drawing, log), places_to(drawing, number))

    def test_logs_of_twelve_things(self):
        log = tuple(((stalk(number),), False) for number in range(0, 13) if number != 6)
        self.assertEqual(len(log), 12)
        for drawing in [EXAMPLE, FIFTEEN["row"], ((0, 1), (1, 2), (2, 3), (3, 4), (4, 5))]:
            known = tuple(place for place in places(drawing) if worth(put(drawing, place)) in (6, 13, 14, 15, 16))
            self.assertEqual(fitting_places(drawing, log), known)

    def test_a_log_that_nothing_fits(self):
        log = (((EXAMPLE,), True), ((EXAMPLE,), False))
        for drawing in [(), EXAMPLE, FIFTEEN["row"]]:
            self.assertEqual(fitting_places(drawing, log), ())

    def test_what_is_no_log_is_refused_with_its_number(self):
        for wrong, number in WRONG_LOGS:
            for drawing in [(), EXAMPLE, FIFTEEN["bush"]]:
                with self.subTest(wrong=wrong, drawing=drawing):
                    self.tells(BadLog, "number", number, fitting_places, drawing, wrong)

    def test_too_many_edges_ahead_of_wrong_logs(self):
        for wrong, _ in WRONG_LOGS + [((), None)]:
            self.tells(TooMany, "most", 16, fitting_places, FULL, wrong)
        for drawing in great_drawings():
            self.tells(TooMany, "most", 16, fitting_places, drawing, ())

    def test_wrong_drawings_ahead_of_all(self):
        for wrong, place in WRONG_DRAWINGS:
            for log in [(), None, (None,)]:
                self.tells(BadDrawing, "place", place, fitting_places, wrong, log)


if __name__ == "__main__":
    unittest.main()
