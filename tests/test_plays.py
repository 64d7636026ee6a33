"""Points [4] and [11]: fallcuts.plays."""

import functools
import itertools
import unittest

from fallcuts.companies import moved, winning_moves
from fallcuts.errors import BadCompany
from fallcuts.plays import best_play, is_play, longest, shortest
from tests.samples import (
    COMPANIES, DRAWINGS, EQUAL, EXAMPLE, NO_INTEGERS, WRONG_COMPANIES, Edge, Refusals, after_move, all_moves,
    great_drawings, greater_drawings, small_drawings, won_by_moves)


def small_companies():
    """Return COMPANIES of at most 5 EDGES in all."""
    few = [drawing for drawing in small_drawings() if len(drawing) < 3]
    made = list(COMPANIES.values()) + [(drawing,) for drawing in small_drawings()]
    made += [(one, (), other) for one, other in itertools.product(few[::2], few[1::3])]
    made += list(itertools.product(few[::6], repeat=3)) + list(itertools.product(few[::11], repeat=4))
    return [company for company in made if len(all_moves(company)) <= 5]


def great_companies():
    """Return COMPANIES of one to four DRAWINGS of 16 EDGES."""
    rows = great_drawings()
    return [tuple(rows[at:at + 1 + at % 4]) for at in range(0, len(rows), 3)]


@functools.lru_cache(maxsize=None)
def all_plays(company):
    """Return the list of all PLAYS of a COMPANY, by the words of [11]."""
    if all(drawing == () for drawing in company):
        return [()]
    return [(move, *others) for move in all_moves(company) for others in all_plays(after_move(company, move))]


def best_by_words(company):
    """Return the BEST PLAY of a COMPANY by going through all MOVES."""
    moves = all_moves(company)
    if not moves:
        return ()
    winning = [move for move in moves if not won_by_moves(after_move(company, move))]
    move = min(winning or moves)
    return (move, *best_by_words(after_move(company, move)))


def changed(play):
    """Return rows of things, each of which is a PLAY with something otherwise in it."""
    made = []
    for at in range(len(play)):
        number, cut = play[at]
        made += [play[:at] + play[at + 1:], play[:at] + play[at:at + 1] + play[at:]]
        made += [play[:at] + (other,) + play[at + 1:] for other in [
            (number, cut + 1), (number, cut - 1), (number + 1, cut), (number - 1, cut), (cut, number)]]
    return made + [play[::-1], play + ((0, 0),), ((0, 0),) + play, play + play]


class IsPlayTest(Refusals):

    def test_all_plays_of_small_companies_are_plays(self):
        for company in small_companies():
            for play in all_plays(company):
                self.assertIs(is_play(company, play), True, (company, play))

    def test_plays_with_something_otherwise(self):
        for company in small_companies()[::3]:
            plays = set(all_plays(company))
            for play in sorted(plays)[:7]:
                for other in changed(play):
                    self.assertIs(is_play(company, other), other in plays, (company, other))

    def test_all_short_rows_of_moves(self):
        pairs = list(itertools.product(range(2), range(-1, 3)))
        rows = [row for many in range(4) for row in itertools.product(pairs, repeat=many)]
        for company in [((),), (((0, 1),),), (((0, 1), (1, 2)),), (((0, 1),), ((0, 0),)), (((0, 0), (0, 1), (1, 1)),)]:
            for row in rows:
                self.assertIs(is_play(company, row), row in all_plays(company), (company, row))

    def test_the_empty_play(self):
        for company in [((),), ((), (), (), ())]:
            self.assertIs(is_play(company, ()), True)
            self.assertIs(is_play(company, ((0, 0),)), False)
        self.assertIs(is_play((EXAMPLE,), ()), False)
        self.assertIs(is_play(((), ((0, 0),)), ()), False)

    def test_a_move_of_an_edge_that_fell(self):
        company = (((0, 1), (1, 2), (1, 3), (2, 3)),)
        self.assertIs(is_play(company, ((0, 0),)), True)
        self.assertIs(is_play(company, ((0, 3), (0, 2), (0, 1), (0, 0))), True)
        self.assertIs(is_play(company, ((0, 3), (0, 2), (0, 1), (0, 0), (0, 0))), False)
        self.assertIs(is_play(company, ((0, 0), (0, 0))), False)
        self.assertIs(is_play(company, ((0, 3), (0, 2), (0, 1))), False)
        self.assertIs(is_play(company, ((0, 3), (0, 3), (0, 0))), False)

    def test_things_of_other_kinds(self):
        company = (((0, 1), (0, 2)), ((0, 1),))
        play = ((0, 1), (1, 0), (0, 0))
        self.assertIs(is_play(company, play), True)
        others = NO_INTEGERS + ["01", b"01", 3, list(play), dict(play), set(play), (play,), play[0], (*play, None)]
        others += [(list(play[0]), *play[1:]), ("01", *play[1:]), (b"01", *play[1:]), (EQUAL, *play[1:])]
        others += [(*play[:1], wrong, *play[2:]) for wrong in NO_INTEGERS + [(1,), (1, 0, 0), ((1, 0),), "10", 1]]
        others += [(*play[:2], pair) for wrong in NO_INTEGERS for pair in [(wrong, 0), (0, wrong), (wrong, wrong)]]
        others += [(play[0], (True, 0), play[2]), ((0, True), *play[1:]), ((0, 10 ** 39),), ((-10 ** 39, 0),)]
        others += [((0, 0),) * 20000, (None,) * 20000]
        for other in others:
            self.assertIs(is_play(company, other), False, other)
        for other in [[], None, True, 0, "", b"", ((),), (((),),), {}, EQUAL]:
            self.assertIs(is_play(((),), other), False, other)

    def test_things_that_lie_deep(self):
        thing = 0
        for _ in range(20):
            self.assertIs(is_play((((0, 1),),), thing), False)
            thing = (thing,)

    def test_great_companies(self):
        for company in great_companies():
            play = tuple((number, 0) for number, drawing in enumerate(company) for edge in drawing if 0 in edge)
            self.assertIs(is_play(company, play), True)
            self.assertEqual(len(play), shortest(company))
            self.assertIs(is_play(company, play[:-1]), False)
            self.assertIs(is_play(company, play + play[:1]), False)
            self.assertIs(is_play(company, ((len(company), 0), *play)), False)


class NumbersTest(Refusals):

    def test_some_companies(self):
        row, bush, ring, loops = [
            DRAWINGS["sixteen " + name] for name in ("in a row", "on the ground", "in a ring", "loops")]
        for company, most, least in [
            (((),), 0, 0), (((), ()), 0, 0), ((((0, 1),),), 1, 1), ((((0, 0),),), 1, 1), ((((0, 16), (16, 16)),), 2, 1),
            ((((0, 1), (0, 2)), ((0, 5), (5, 6))), 4, 3), ((EXAMPLE,), 4, 1), ((EXAMPLE,) * 4, 16, 4),
            ((((0, 0), (0, 0), (0, 1), (1, 1)),), 4, 3), ((row,) * 4, 64, 4), ((bush,) * 4, 64, 64),
            ((loops, ring), 32, 18), ((row, (), bush), 32, 17),
        ]:
            self.assertEqual([longest(company), shortest(company)], [most, least], company)

    def test_small_companies_by_all_plays(self):
        for company in small_companies():
            lengths = [len(play) for play in all_plays(company)]
            self.assertEqual([longest(company), shortest(company)], [max(lengths), min(lengths)], company)

    def test_greater_companies_by_all_ways(self):
        @functools.lru_cache(maxsize=None)
        def lengths(company):
            left = [after_move(company, move) for move in all_moves(company)]
            return frozenset({0} if not left else {1 + many for one in left for many in lengths(one)})

        for drawing in greater_drawings()[::2]:
            for company in [(drawing,), (drawing, EXAMPLE)]:
                found = [longest(company), shortest(company)]
                self.assertEqual(found, [max(lengths(company)), min(lengths(company))], company)


class BestPlayTest(Refusals):

    def test_some_companies(self):
        for company, play in [
            (((),), ()), (((), (), ()), ()), ((((0, 1),),), ((0, 0),)), (((), ((0, 0),)), ((1, 0),)),
            ((((0, 1), (0, 2)), ((0, 5), (5, 6))), ((1, 0), (0, 0), (0, 0))), ((EXAMPLE,), ((0, 0),)),
            ((EXAMPLE, EXAMPLE), ((0, 0), (1, 0))), ((((0, 1), (1, 2)),), ((0, 0),)),
            ((((0, 1), (0, 2)),), ((0, 0), (0, 0))), (((), ((0, 1), (1, 2)), ((0, 1),)), ((1, 1), (1, 0), (2, 0))),
        ]:
            self.assertEqual(best_play(company), play, company)

    def test_by_going_through_all_moves(self):
        for company in small_companies():
            self.assertEqual(best_play(company), best_by_words(company), company)
        for drawing in greater_drawings():
            self.assertEqual(best_play((drawing,)), best_by_words((drawing,)), drawing)
            self.assertEqual(best_play(((), drawing, EXAMPLE)), best_by_words(((), drawing, EXAMPLE)), drawing)

    def test_companies_of_four_with_sixteen_edges_each(self):
        for company in great_companies():
            play = best_play(company)
            self.assertIs(type(play), tuple)
            self.assertIs(is_play(company, play), True, company)
            self.assertTrue(shortest(company) <= len(play) <= longest(company))
            for move in play:
                self.assertIs(type(move), tuple)
                self.assertEqual(move, min(winning_moves(company) or all_moves(company)), company)
                company = moved(company, move)

    def test_who_wins_makes_the_last_move(self):
        for company in small_companies():
            self.assertEqual(len(best_play(company)) % 2 == 1, won_by_moves(company), company)


class WrongCompaniesTest(Refusals):

    def test_what_is_no_company_is_refused_with_its_number(self):
        for wrong, number in WRONG_COMPANIES:
            for call in (longest, shortest, best_play):
                self.tells(BadCompany, "number", number, call, wrong)
            for value in [(), None, ((0, 0),), [], EQUAL]:
                self.tells(BadCompany, "number", number, is_play, wrong, value)

    def test_tuples_of_other_classes(self):
        company = ((Edge(0, 1), Edge(1, 2)),)
        self.assertEqual([longest(company), shortest(company), best_play(company)], [2, 1, ((0, 0),)])
        self.assertIs(is_play(company, (Edge(0, 1), Edge(0, 0))), True)


if __name__ == "__main__":
    unittest.main()
