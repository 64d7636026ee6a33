"""Point [10]: fallcuts.likes."""

import itertools
import unittest

from fallcuts.errors import BadDrawing, BadPaper
from fallcuts.likes import alike_paper, are_alike, check_alike
from fallcuts.steps import check_worth, worth_paper
from fallcuts.worths import worth
from tests.samples import (
    DRAWINGS, EQUAL, EXAMPLE, GREAT_DRAWINGS, NO_INTEGERS, WRONG_DRAWINGS, Refusals, great_drawings, greater_drawings,
    small_drawings, stalk, won_by_moves, worth_by_cuts)

STALK = ((0, 1), (1, 2))


def pairs():
    """Return pairs of DRAWINGS, small and great ones, the same one twice among them."""
    few = small_drawings()[::17] + greater_drawings()[::9] + list(DRAWINGS.values())
    great = great_drawings()
    return list(itertools.product(few, repeat=2)) + list(zip(great, great[5:] + great[:5]))


class AlikeTest(Refusals):

    def test_some_pairs(self):
        for one, other, known in [
            ((), (), True), ((), ((0, 1), (0, 2)), True), ((), ((0, 1),), False), (EXAMPLE, STALK, True),
            (EXAMPLE, stalk(3), False), (((0, 0),), ((0, 16),), True), (((0, 1), (0, 1)), STALK, False),
            (GREAT_DRAWINGS["comb"][0], stalk(16), True), (GREAT_DRAWINGS["tree"][0], stalk(16), False),
        ]:
            self.assertIs(are_alike(one, other), known, (one, other))
            self.assertIs(are_alike(other, one), known, (one, other))

    def test_all_small_pairs_by_all_cuts(self):
        for one, other in itertools.product(small_drawings()[::3], repeat=2):
            self.assertIs(are_alike(one, other), worth_by_cuts(one) == worth_by_cuts(other), (one, other))

    def test_alike_drawings_beside_small_companies(self):
        beside = [(), (((0, 1),),), (STALK,), (EXAMPLE,), (STALK, ((0, 0),)), (stalk(3),), (((0, 1), (1, 1), (1, 2)),)]
        few = [drawing for drawing in small_drawings()[::4] if len(drawing) < 4]
        for one, other in itertools.product(few, repeat=2):
            same = all(won_by_moves((one, *company)) == won_by_moves((other, *company)) for company in beside)
            self.assertIs(are_alike(one, other), same, (one, other))

    def test_wrong_drawings(self):
        for call in (are_alike, alike_paper):
            for wrong, place in WRONG_DRAWINGS:
                self.tells(BadDrawing, "place", place, call, wrong, EXAMPLE)
                self.tells(BadDrawing, "place", place, call, EXAMPLE, wrong)
                # The first one of two is told, whatever the other one is.
                self.tells(BadDrawing, "place", place, call, wrong, ((0, 1), (2, 3)))
                self.tells(BadDrawing, "place", "ground", call, ((0, 1), (2, 3)), wrong)


class AlikePaperTest(Refusals):

    def test_papers_hold(self):
        for one, other in pairs():
            paper = alike_paper(one, other)
            self.assertIs(type(paper), tuple)
            word = "alike" if are_alike(one, other) else "apart"
            self.assertEqual(check_alike(one, other, paper), word, (one, other))

    def test_papers_by_the_words(self):
        for one, other in pairs():
            word, *parts = alike_paper(one, other)
            if worth(one) == worth(other):
                self.assertEqual((word, len(parts)), ("alike", 2))
                self.assertEqual(check_worth(one, parts[0]), check_worth(other, parts[1]))
            else:
                self.assertEqual((word, len(parts), type(parts[0])), ("apart", 1, int))
                self.assertIn(parts[0], (worth(one), worth(other)))

    def test_which_stalks_show_that_two_are_apart(self):
        few = [drawing for drawing in small_drawings()[::6] if len(drawing) < 4]
        for one, other in itertools.product(few, repeat=2):
            for many in range(5):
                just_one = won_by_moves((one, stalk(many))) != won_by_moves((other, stalk(many)))
                self.assertEqual(self.verdict(one, other, ("apart", many)), just_one, (one, other, many))

    def verdict(self, one, other, paper):
        try:
            self.assertEqual(check_alike(one, other, paper), "apart")
            return True
        except BadPaper as error:
            self.assertEqual(error.part, "apart")
            return False

    def test_the_least_and_the_greatest_stalk(self):
        self.assertEqual(check_alike(((0, 1),), (), ("apart", 0)), "apart")
        self.assertEqual(check_alike((), ((0, 1),), ("apart", 1)), "apart")
        self.assertEqual(check_alike(stalk(16), (), ("apart", 16)), "apart")
        self.assertEqual(check_alike(stalk(15), stalk(16), ("apart", 16)), "apart")


class CheckAlikeTest(Refusals):

    def refused(self, part, one, other, *papers):
        for paper in papers:
            with self.subTest(one=one, other=other, paper=paper):
                self.tells(BadPaper, "part", part, check_alike, one, other, paper)

    def test_form(self):
        for one, other in [((), ()), (EXAMPLE, STALK), (EXAMPLE, ()), (EXAMPLE, EXAMPLE)]:
            word, *others = alike_paper(one, other)
            self.refused(
                "form", one, other, None, True, 0, EQUAL, (EQUAL, *others), "", "alike", "apart", b"apart", (), [],
                {}, {"alike"}, object(), [word, *others], (word,), (word, *others, ()), (word, *others[:-1]),
                (word.upper(), *others),
                (word[:-1], *others), ("won", *others), ("lost", *others), ("", *others), (None, *others), (0, *others),
                ((word,), *others), ([word], *others), ({word: 1}, *others), (b"alike", *others), (b"apart", *others),
                tuple(others), (*others, word), (word, *others) * 2, ("alike",), ("apart",), ("alike", ()),
                ("apart", 0, 0), ("apart", (), ()), ("alike", 0), ("alike", (), (), ()),
                ("apart" if word == "alike" else "alike", *others))

    def test_alike_papers_that_do_not_hold(self):
        one, other = worth_paper(EXAMPLE), ()
        self.assertEqual(check_alike(EXAMPLE, STALK, ("alike", one, other)), "alike")
        self.assertEqual(check_alike(STALK, EXAMPLE, ("alike", other, one)), "alike")
        for wrong in [None, True, 0, 2, "", [], {}, list(one), one[:-1], one + (None,), one + (("loop", 0),),
                      (None,) + one, (None,) * 101, object(), other, one[1:], one * 2]:
            self.refused("alike", EXAMPLE, STALK, ("alike", wrong, other))
            self.refused("alike", STALK, EXAMPLE, ("alike", other, wrong))
            self.refused("alike", EXAMPLE, EXAMPLE, ("alike", one, wrong), ("alike", wrong, one))
        self.refused("alike", STALK, EXAMPLE, ("alike", one, other))
        self.refused("alike", EXAMPLE, STALK, ("alike", None, None), ("alike", 2, 2), ("alike", other, one))

    def test_stalks_that_are_not_as_long(self):
        for one, other in pairs():
            if worth(one) != worth(other):
                self.refused("alike", one, other, ("alike", worth_paper(one), worth_paper(other)))

    def test_stalks_that_do_not_part_two_drawings(self):
        for one, other in pairs()[::3]:
            for many in range(-1, 19):
                if (worth(one) == many) == (worth(other) == many):
                    self.refused("apart", one, other, ("apart", many))

    def test_what_is_no_integer_from_0_to_16(self):
        for one, other in [(((0, 1),), ()), ((), ((0, 1),)), ((), ()), (EXAMPLE, stalk(16))]:
            for wrong in NO_INTEGERS + [-1, 17, 10 ** 39, -10 ** 39, "1", (1,), ((),), 1.5]:
                self.refused("apart", one, other, ("apart", wrong))

    def test_wrong_drawings_are_told_ahead_of_wrong_papers(self):
        for wrong, place in WRONG_DRAWINGS:
            for paper in [None, (), ("apart", 0), ("alike", (), ())]:
                self.tells(BadDrawing, "place", place, check_alike, wrong, EXAMPLE, paper)
                self.tells(BadDrawing, "place", place, check_alike, EXAMPLE, wrong, paper)
                self.tells(BadDrawing, "place", place, check_alike, wrong, ((0, 1), (2, 3)), paper)
                self.tells(BadDrawing, "place", "ground", check_alike, ((0, 1), (2, 3)), wrong, paper)


if __name__ == "__main__":
    unittest.main()
