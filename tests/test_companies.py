"""Points [4], [5] and [9]: fallcuts.companies."""

import itertools
import unittest

from fallcuts.companies import (
    check_company, company_paper, company_worth, is_won, moved, need_company, winning_moves)
from fallcuts.errors import BadCompany, BadMove, BadPaper
from fallcuts.steps import check_worth, worth_paper
from fallcuts.worths import carryless
from tests.samples import (
    COMPANIES, DRAWINGS, EQUAL, EXAMPLE, GREAT_DRAWINGS, NO_INTEGERS, WRONG_COMPANIES, Edge, Refusals, after_move,
    all_moves, all_samples, great_drawings, small_drawings, won_by_moves, worth_by_cuts)


def nested(depth, inner):
    """Return a thing inside so many tuples."""
    for _ in range(depth):
        inner = (inner,)
    return inner


def small_companies():
    """Return COMPANIES of one to four small DRAWINGS."""
    few = [drawing for drawing in small_drawings() if len(drawing) < 3]
    made = list(COMPANIES.values()) + [(drawing,) for drawing in small_drawings()]
    made += list(itertools.product(few, small_drawings()[::7]))
    return made + list(itertools.product(few[::5], repeat=3)) + list(itertools.product(few[::12], repeat=4))


def great_companies():
    return list(zip(*[great_drawings()[k:] + great_drawings()[:k] for k in (0, 3, 7, 11)]))


class NeedCompanyTest(Refusals):

    def test_a_company_is_returned_itself(self):
        for company in small_companies() + great_companies():
            self.assertIs(need_company(company), company)

    def test_what_is_no_company_is_refused_with_its_number(self):
        for wrong, number in WRONG_COMPANIES:
            for call in (need_company, company_worth, is_won, winning_moves, company_paper):
                with self.subTest(call=call, wrong=wrong):
                    self.tells(BadCompany, "number", number, call, wrong)

    def test_what_is_wrong_may_lie_deep(self):
        for depth in range(1, 20):
            for inner in [0, None, True, "", "0-1", [0, 1], (0,), (0, 1, 2), ([], [])]:
                self.tells(BadCompany, "number", 0, need_company, nested(depth, inner))
                self.tells(BadCompany, "number", 1, need_company, (EXAMPLE, nested(depth, inner), None))
        for wrong in [((0, 1), (1, (2,))), ((0, 1), ((1,), 2)), ((0, 1), (1, [2])), (((0, 1),),)]:
            self.tells(BadCompany, "number", 3, need_company, ((), EXAMPLE, (), wrong))

    def test_things_more_than_four_are_told_ahead_of_what_they_are(self):
        self.tells(BadCompany, "number", None, need_company, (None, EXAMPLE, (), (), ()))


class MovedTest(Refusals):

    def test_some_moves(self):
        company = (EXAMPLE, ((0, 1), (1, 4)))
        self.assertEqual(moved(company, (0, 0)), ((), ((0, 1), (1, 4))))
        self.assertEqual(moved(company, (0, 3)), (((0, 1), (1, 2), (1, 3)), ((0, 1), (1, 4))))
        self.assertEqual(moved(company, (1, 1)), (EXAMPLE, ((0, 1),)))
        self.assertEqual(moved((EXAMPLE, EXAMPLE), (1, 0)), (EXAMPLE, ()))

    def test_all_moves_by_the_words(self):
        for company in small_companies() + great_companies()[:3]:
            for move in all_moves(company):
                self.assertEqual(moved(company, move), after_move(company, move), (company, move))

    def test_what_is_no_move_is_refused_with_what_was_given(self):
        for company in COMPANIES.values():
            wrongs = [(number, cut) for number in range(-2, 6) for cut in range(-2, 6)]
            wrongs = [move for move in wrongs if move not in all_moves(company)] + [(10 ** 39, 0), (0, -10 ** 39)]
            wrongs += NO_INTEGERS + [(0, 0, 0), [0, 0], {0: 0}, ((0, 0),), ((0,), (0,)), ((0, 0), (0, 0)), "00"]
            for wrong in wrongs:
                with self.subTest(company=company, wrong=wrong):
                    self.refuses(BadMove, "given", wrong, moved, company, wrong)

    def test_parts_that_are_no_integers(self):
        for wrong in NO_INTEGERS:
            for move in [(wrong, 0), (0, wrong), (wrong, wrong), (1, wrong), (wrong, 1)]:
                with self.subTest(move=move):
                    self.refuses(BadMove, "given", move, moved, (EXAMPLE, EXAMPLE), move)

    def test_a_wrong_company_is_told_ahead_of_a_wrong_move(self):
        for wrong, number in WRONG_COMPANIES:
            for move in [(0, 0), (-1, 0), None]:
                self.tells(BadCompany, "number", number, moved, wrong, move)

    def test_tuples_that_are_told_are_plain(self):
        company = ((Edge(0, 1), Edge(1, 2)), (Edge(0, 1), Edge(0, 2)))
        self.assertIs(need_company(company), company)
        told = moved(company, Edge(1, 0))
        self.assertEqual(told, (((0, 1), (1, 2)), ((0, 2),)))
        self.assertEqual({type(thing) for thing in (told, *told, *told[0], *told[1])}, {tuple})
        self.assertEqual({type(move) for move in winning_moves(company)}, {tuple})


class WonTest(Refusals):

    def test_some_companies(self):
        for name, known in [
            ("one empty", False), ("four empty", False), ("one edge", True),
            ("a loop and nothing", True), ("example", True),
            ("example twice", False), ("example and a stalk", False), ("three stalks that are lost", False),
            ("three stalks that are won", True), ("four like ones", False),
        ]:
            self.assertIs(is_won(COMPANIES[name]), known, name)

    def test_the_worth_by_all_cuts(self):
        for company in small_companies():
            known = 0
            for drawing in company:
                known ^= worth_by_cuts(drawing)
            self.assertEqual(company_worth(company), known, company)
            self.assertIs(type(company_worth(company)), int)

    def test_some_worths(self):
        self.assertEqual(company_worth(COMPANIES["three stalks that are won"]), 1)
        self.assertEqual(company_worth((EXAMPLE,)), 2)
        self.assertEqual(company_worth((DRAWINGS["sixteen in a row"], DRAWINGS["stalk"])), 19)
        self.assertEqual(company_worth(tuple(GREAT_DRAWINGS[name][0] for name in ("row", "comb", "tree", "ring"))), 8)

    def test_won_by_all_moves(self):
        for company in small_companies():
            self.assertIs(is_won(company), won_by_moves(company), company)

    def test_winning_moves_by_all_moves(self):
        for company in small_companies():
            known = [move for move in all_moves(company) if not won_by_moves(after_move(company, move))]
            self.assertEqual(winning_moves(company), tuple(known), company)

    def test_great_companies(self):
        for company in great_companies():
            known = [move for move in all_moves(company) if company_worth(after_move(company, move)) == 0]
            self.assertEqual(winning_moves(company), tuple(known))
            self.assertIs(is_won(company), known != [])


class CompanyPaperTest(Refusals):

    def test_papers_hold(self):
        for company in small_companies() + great_companies():
            paper = company_paper(company)
            self.assertIs(type(paper), tuple)
            self.assertEqual(check_company(company, paper), "won" if is_won(company) else "lost", company)

    def test_papers_by_the_words(self):
        for company in small_companies():
            word, *others, papers = company_paper(company)
            left = company
            if won_by_moves(company):
                self.assertEqual((word, len(others)), ("won", 1))
                self.assertIn(others[0], all_moves(company))
                left = after_move(company, others[0])
            else:
                self.assertEqual((word, others), ("lost", []))
            self.assertEqual((type(papers), len(papers)), (tuple, len(company)))
            self.assertEqual(carryless(tuple(map(check_worth, left, papers))), 0)

    def test_both_words_and_the_empty_company(self):
        self.assertEqual(company_paper(((),)), ("lost", ((),)))
        self.assertEqual(company_paper((((0, 1),),)), ("won", (0, 0), ((),)))
        self.assertEqual(check_company(((), ()), ("lost", ((), ()))), "lost")

    def test_each_winning_move_makes_a_paper(self):
        for company in small_companies()[::5]:
            for move in all_moves(company):
                left = after_move(company, move)
                paper = ("won", move, tuple(map(worth_paper, left)))
                if move in winning_moves(company):
                    self.assertEqual(check_company(company, paper), "won")
                else:
                    self.tells(BadPaper, "part", "sum", check_company, company, paper)

    def test_a_paper_on_the_other_outcome(self):
        for company in small_companies():
            if is_won(company):
                self.tells(BadPaper, "part", "sum", check_company, company, ("lost", tuple(map(worth_paper, company))))


class CheckCompanyTest(Refusals):

    def refused(self, part, company, *papers):
        for paper in papers:
            with self.subTest(company=company, paper=paper):
                self.tells(BadPaper, "part", part, check_company, company, paper)

    def test_form(self):
        for company in [(EXAMPLE,), ((),), COMPANIES["four"], COMPANIES["example twice"]]:
            word, *others = company_paper(company)
            self.refused(
                "form", company, None, True, 0, EQUAL, (EQUAL, *others), "", "won", "lost", b"won", (), [], {},
                {"won"}, object(), [word, *others], (word,), (word, *others, ()), (word, *others[:-1]),
                ("Won", *others), ("LOST", *others), ("los", *others),
                ("alike", *others), ("", *others), (None, *others), (0, *others), ((word,), *others), ([word], *others),
                ({word: 1}, *others), (b"lost", *others), (b"won", *others), tuple(others), (others, word),
                (word, *others) * 2,
                ("won",), ("lost",), ("won", ()), ("won", (0, 0)), ("lost", (0, 0), ()), ("lost", None, ()),
                ("won", (0, 0), (), ()), ("lost", (), (), ()), (True, (0, 0), ()),
                ("won" if word == "lost" else "lost", *others))

    def test_moves(self):
        company = (EXAMPLE, ((0, 1),))
        self.assertEqual(check_company(company, company_paper(company)), "won")
        papers = company_paper(company)[2]
        for wrong in NO_INTEGERS + [(0, 4), (1, 1), (2, 0), (-1, 0), (0, -1), (0, 0, 0), [0, 0], (False, 0), (0, False),
                                    (0, 0.0), ("0", "0"), (None, None), ((0, 0),), (10 ** 39, 0)]:
            # A wrong MOVE is told whatever the PAPERS are.
            self.refused("move", company, ("won", wrong, papers), ("won", wrong, None), ("won", wrong, ()))
        self.refused("move", ((),), ("won", (0, 0), ((),)), ("won", None, None))

    def test_papers_that_are_none(self):
        for company in [(EXAMPLE,), (EXAMPLE, ((0, 1),)), COMPANIES["example twice"], COMPANIES["four"], ((), ())]:
            *head, papers = company_paper(company)
            wrongs = [None, True, 0, "", b"", {}, object(), list(papers), [], papers[1:], papers[:-1], papers + ((),),
                      papers * 2, papers + (None,), (None,) * len(papers), papers[:-1] + (None,), papers[:-1] + ([],),
                      papers[:-1] + (papers[-1] + (("loop", 0),),), papers[:-1] + ((None,) + papers[-1],),
                      (list(papers[0]),) + papers[1:], (papers[0] + (None,),) + papers[1:], (((),) * 101,) + papers[1:],
                      ("",) + papers[1:], (papers,) + papers[1:]]
            self.refused("papers", company, *[(*head, wrong) for wrong in wrongs])

    def test_papers_that_come_to_an_end_too_soon(self):
        for company in small_companies()[::3]:
            *head, papers = company_paper(company)
            for at, paper in enumerate(papers):
                if paper:
                    self.refused("papers", company, (*head, papers[:at] + (paper[:-1],) + papers[at + 1:]))

    def test_papers_on_other_drawings_than_those_behind_the_move(self):
        company = (((0, 1), (0, 2), (1, 2)), ((0, 1), (0, 1)))
        self.refused("papers", company, ("won", (0, 0), tuple(map(worth_paper, company))))
        one, other = map(worth_paper, (EXAMPLE, ((0, 1), (1, 2))))
        self.assertEqual(check_company((EXAMPLE, ((0, 1), (1, 2))), ("lost", (one, other))), "lost")
        self.refused("papers", (EXAMPLE, ((0, 1), (1, 2))), ("lost", (other, one)))

    def test_papers_are_told_ahead_of_the_sum(self):
        self.refused("papers", (((0, 1),), EXAMPLE), ("lost", ((), ())))
        self.refused("sum", (((0, 1),), EXAMPLE), ("lost", ((), worth_paper(EXAMPLE))))
        self.refused("sum", (((0, 1), (1, 2)),), ("lost", ((),)), ("won", (0, 1), ((),)))

    def test_a_paper_on_one_company_for_another(self):
        companies = small_companies()[:160:8]
        for one, other in itertools.product(companies, repeat=2):
            paper = company_paper(other)
            verdict = self.verdict_by_words(one, paper)
            if verdict in ("won", "lost"):
                self.assertEqual(check_company(one, paper), verdict)
            else:
                self.refused(verdict, one, paper)

    def verdict_by_words(self, company, paper):
        left = company
        if paper[0] == "won":
            if paper[1] not in all_moves(company):
                return "move"
            left = after_move(company, paper[1])
        if len(paper[-1]) != len(left):
            return "papers"
        try:
            worths = [check_worth(drawing, part) for drawing, part in zip(left, paper[-1])]
        except BadPaper:
            return "papers"
        return "sum" if carryless(tuple(worths)) else paper[0]

    def test_a_wrong_company_is_told_ahead_of_a_wrong_paper(self):
        for wrong, number in WRONG_COMPANIES:
            for paper in [None, (), ("lost", ((),))]:
                self.tells(BadCompany, "number", number, check_company, wrong, paper)

    def test_companies_of_one_drawing_each(self):
        for drawing in all_samples() + great_drawings():
            paper = company_paper((drawing,))
            self.assertEqual(check_company((drawing,), paper), paper[0])


if __name__ == "__main__":
    unittest.main()
