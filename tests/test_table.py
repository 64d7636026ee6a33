"""Points [2], [4] and [9], as far as tables go: fallcuts.table."""

import random
import unittest

from fallcuts.companies import winning_moves
from fallcuts.desk import Desk
from fallcuts.errors import BadCompany, BadDrawing, BadMove, BadNumber, FallError, NothingLeft
from fallcuts.table import Table, under
from tests.samples import (
    COMPANIES, DRAWINGS, EQUAL, EXAMPLE, NO_INTEGERS, WRONG_COMPANIES, Edge, Refusals, after_move, all_moves,
    great_drawings, greater_drawings, won_by_moves)

FORK = ((0, 1), (1, 2), (1, 3))
COMPANY = (EXAMPLE, ((0, 1), (0, 2)), ((0, 5), (5, 6)))

# What undo and redo take for no number, and what is too many for each table here.
NO_NUMBERS = [0, -1, -2, -10 ** 39, "1", (1,), [1]] + NO_INTEGERS
TOO_MANY = [100, 10 ** 39]


class Enough(Exception):
    """An error that is none of the package."""


class Row:
    """A plain row of COMPANIES, and how many MOVES of it are made: what a Table does, by the words."""

    def __init__(self, company):
        self.companies, self.moves, self.made = [company], [], 0

    def now(self):
        return self.companies[self.made]

    def cut(self, move):
        del self.companies[self.made + 1:], self.moves[self.made:]
        self.companies.append(after_move(self.now(), move))
        self.moves.append(move)
        self.made += 1
        return sum(map(len, self.companies[-2])) - sum(map(len, self.companies[-1]))

    def answer(self):
        winning = [move for move in all_moves(self.now()) if not won_by_moves(after_move(self.now(), move))]
        return min(winning, default=None)

    def copy(self):
        other = Row(self.companies[0])
        other.back_to(self)
        return other

    def back_to(self, other):
        self.companies, self.moves, self.made = list(other.companies), list(other.moves), other.made

    def same(self, other):
        """Tell whether two rows began alike, with the same MOVES but for what was taken back."""
        mine, theirs = [(row.companies[0], row.moves[:row.made]) for row in (self, other)]
        return mine == theirs


class TableTests(Refusals):

    def stands(self, table, row):
        """Compare all that a Table tells with a row."""
        self.assertEqual(table.company, row.now())
        self.assertEqual((len(table), table.turn()), (row.made, row.made % 2))
        self.assertEqual(table.answer(), row.answer())
        # What can be taken back and done again is seen on a copy.
        for back in (True, False):
            other, many = table.copy(), row.made if back else len(row.moves) - row.made
            step = other.undo if back else other.redo
            self.tells(NothingLeft, "many", many + 1, step, many + 1)
            for k in range(1, many + 1):
                self.assertIsNone(step())
                self.assertEqual(other.company, row.companies[row.made - k if back else row.made + k])
            self.tells(NothingLeft, "many", 1, step)

    def made(self, company, *moves):
        table, row = Table(company), Row(company)
        for move in moves:
            self.assertEqual(table.cut(move), row.cut(move))
        return table, row


class CompanyTest(TableTests):

    def test_a_new_table(self):
        for company in COMPANIES.values():
            table = Table(company)
            self.assertEqual([table.company, len(table), table.turn()], [company, 0, 0])
            self.stands(table, Row(company))

    def test_what_is_no_company_is_refused_with_its_number(self):
        for wrong, number in WRONG_COMPANIES:
            self.tells(BadCompany, "number", number, Table, wrong)

    def test_tuples_that_are_told_are_plain(self):
        company = ((Edge(0, 1), Edge(1, 2)), (Edge(0, 1), Edge(0, 2)))
        table = Table(company)
        self.assertEqual(table.company, (((0, 1), (1, 2)), ((0, 1), (0, 2))))
        for _ in range(2):
            now = table.company
            self.assertEqual({type(thing) for thing in (now, *now, *now[0], *now[1])}, {tuple})
            self.assertIs(type(table.answer()), tuple)
            table.cut(Edge(1, 0))
        self.assertEqual(table, self.made(company, (1, 0), (1, 0))[0])

    def test_the_company_is_told_by_a_property_that_is_not_assigned(self):
        table = Table(COMPANY)
        self.assertIsInstance(Table.company, property)
        with self.assertRaises(AttributeError):
            table.company = (EXAMPLE,)
        self.assertEqual(table.company, COMPANY)

    def test_all_that_is_listed_stands_in_the_class_itself(self):
        for name in ("company", "cut", "turn", "answer", "undo", "redo", "copy", "trial", "__len__", "__eq__"):
            self.assertIn(name, vars(Table))
        self.assertEqual((Table.__module__, under.__module__), ("fallcuts.table", "fallcuts.table"))


class CutTest(TableTests):

    def test_each_first_move(self):
        for company in COMPANIES.values():
            for move in all_moves(company):
                table, row = self.made(company, move)
                self.stands(table, row)

    def test_how_many_fell(self):
        for drawing, cut, many in [
            (EXAMPLE, 0, 4), (EXAMPLE, 1, 1), (((0, 0),), 0, 1), (DRAWINGS["sixteen in a row"], 0, 16),
            (DRAWINGS["sixteen in a row"], 15, 1), (DRAWINGS["sixteen alike"], 15, 1), (FORK, 0, 3), (FORK, 2, 1),
            (((0, 9), (2, 5), (5, 9)), 2, 2),
        ]:
            self.assertEqual(Table(((), drawing)).cut((1, cut)), many)

    def test_wrong_moves(self):
        for company in COMPANIES.values():
            table, row = self.made(company, *all_moves(company)[-1:])
            wrongs = [(a, b) for a in range(-1, 6) for b in range(-1, 6) if (a, b) not in all_moves(row.now())]
            wrongs += NO_INTEGERS + [(0, True), (False, 0), (0, 0, 0), [0, 0], "00", (10 ** 39, 0), (EQUAL, EQUAL)]
            for wrong in wrongs:
                self.refuses(BadMove, "given", wrong, table.cut, wrong)
            self.stands(table, row)

    def test_a_move_of_an_edge_that_fell(self):
        table, row = self.made((EXAMPLE,), (0, 0))
        self.tells(BadMove, "given", (0, 1), table.cut, (0, 1))
        self.stands(table, row)

    def test_great_companies(self):
        for at in range(0, 20, 4):
            company = tuple(great_drawings()[at:at + 4])
            table, row = Table(company), Row(company)
            while table.answer():
                winning = winning_moves(row.now())
                self.assertEqual(table.answer(), winning[0])
                self.assertEqual(table.cut(winning[0]), row.cut(winning[0]))
                self.assertEqual(table.company, row.now())
                self.assertIsNone(table.answer())
                if all_moves(row.now()):
                    self.assertEqual(table.cut(all_moves(row.now())[-1]), row.cut(all_moves(row.now())[-1]))
            self.assertEqual(len(table), row.made)


class BackTest(TableTests):

    MOVES = [(0, 3), (2, 1), (1, 0), (0, 1), (2, 0)]

    def test_back_and_again_by_all_numbers(self):
        for back in range(1, 6):
            for again in range(1, back + 1):
                table, row = self.made(COMPANY, *self.MOVES)
                self.assertIsNone(table.undo(back))
                row.made -= back
                self.stands(table, row)
                self.assertIsNone(table.redo(again))
                row.made += again
                self.stands(table, row)

    def test_what_was_taken_back_by_steps_is_done_again_in_its_order(self):
        table, row = self.made(COMPANY, *self.MOVES)
        for back in (2, 1, 2):
            table.undo(back)
        self.assertEqual((table.company, len(table)), (COMPANY, 0))
        for again in (1, 3, 1):
            table.redo(again)
        self.stands(table, row)

    def test_a_move_made_since_leaves_nothing_to_do_again(self):
        for move in [self.MOVES[-1], (0, 0)]:
            table, row = self.made(COMPANY, *self.MOVES)
            table.undo()
            table.undo()
            table.redo()
            row.made -= 1
            self.assertEqual(table.cut(move), row.cut(move))
            self.tells(NothingLeft, "many", 1, table.redo)
            self.stands(table, row)

    def test_the_same_move_made_again_is_a_move_made_since(self):
        table, row = self.made(COMPANY, (0, 0), (1, 0))
        table.undo(2)
        table.cut((0, 0))
        self.tells(NothingLeft, "many", 1, table.redo)
        row.made = 0
        row.cut((0, 0))
        self.stands(table, row)

    def test_what_is_refused_leaves_what_can_be_done_again(self):
        table, row = self.made(COMPANY, *self.MOVES)
        table.undo(2)
        row.made -= 2
        for deed in [lambda: table.cut((0, 9)), lambda: table.undo(4), lambda: table.redo(3), lambda: table.undo(0)]:
            self.assertRaises((FallError, NothingLeft), deed)
            self.stands(table, row)

    def test_wrong_numbers_ahead_of_nothing_left(self):
        for moves, back in [([], 0), (self.MOVES, 0), (self.MOVES, 2), (self.MOVES, 5)]:
            table, row = self.made(COMPANY, *moves)
            if back:
                table.undo(back)
                row.made -= back
            for step in (table.undo, table.redo):
                for wrong in NO_NUMBERS:
                    self.refuses(BadNumber, "given", wrong, step, wrong)
                    self.refuses(BadNumber, "given", wrong, step, many=wrong)
                for wrong in TOO_MANY + [len(moves) - back + 1 if step == table.undo else back + 1]:
                    self.refuses(NothingLeft, "many", wrong, step, wrong)
            self.stands(table, row)

    def test_without_a_number_it_is_one(self):
        table, row = self.made(COMPANY, *self.MOVES)
        table.undo()
        self.assertEqual(len(table), 4)
        table.redo()
        self.stands(table, row)
        self.tells(NothingLeft, "many", 1, table.redo)
        self.tells(NothingLeft, "many", 1, Table(COMPANY).undo)


class CopyTest(TableTests):

    def test_a_copy_stands_likewise_and_goes_on_by_itself(self):
        table, row = self.made(COMPANY, (0, 3), (2, 1), (1, 0))
        table.undo(2)
        row.made -= 2
        other, theirs = table.copy(), row.copy()
        self.assertIs(type(other), Table)
        self.assertIsNot(other, table)
        self.stands(other, theirs)
        other.cut((0, 0))
        theirs.cut((0, 0))
        self.stands(table, row)
        self.stands(other, theirs)
        table.redo(2)
        row.made += 2
        self.stands(table, row)
        self.stands(other, theirs)
        table.undo(3)
        self.assertEqual(table.copy().company, COMPANY)
        self.stands(other, theirs)

    def test_a_copy_made_in_a_block_stays_as_it_is(self):
        table, row = self.made(COMPANY, (0, 3))
        with table.trial():
            table.cut((1, 0))
            other = table.copy()
        self.stands(table, row)
        self.stands(other, self.made(COMPANY, (0, 3), (1, 0))[1])
        with other.trial():
            other.undo(2)
        self.stands(table, row)


class EqualTest(TableTests):

    def test_what_was_taken_back_does_not_count(self):
        table, other = Table(COMPANY), Table(COMPANY)
        self.assertIs(table == other, True)
        table.cut((0, 0))
        self.assertIs(table == other, False)
        self.assertIs(table != other, True)
        table.undo()
        self.assertIs(table == other, True)
        self.assertIs(table != other, False)
        self.assertIs(table == table.copy(), True)
        table.redo()
        self.assertIs(table == table.copy(), True)

    def test_the_same_company_by_other_moves_or_from_another_beginning(self):
        one, _ = self.made(((), ((0, 1), (0, 2))), (1, 0))
        other, _ = self.made(((), ((0, 1), (0, 2), (2, 3))), (1, 2))
        third, _ = self.made(((), ((0, 1), (0, 2))), (1, 1))
        for second in (other, third, Table(((), ((0, 2),))), Table((((0, 2),), ()))):
            self.assertIs(one == second, False)
        both = [self.made((((0, 1),), ((0, 1),)), *moves)[0] for moves in [[(0, 0), (1, 0)], [(1, 0), (0, 0)]]]
        self.assertEqual(both[0].company, both[1].company)
        self.assertIs(both[0] == both[1], False)

    def test_objects_of_other_kinds(self):
        table = Table(COMPANY)
        things = NO_INTEGERS + [COMPANY, (COMPANY, ()), Desk("none"), table.trial(), Table, under, BadDrawing(0)]
        for thing in things:
            self.assertIs(table == thing, False, thing)
            self.assertIs(table != thing, True, thing)


class IterationTest(unittest.TestCase):

    def test_going_through_an_object_of_the_package(self):
        table = Table(COMPANY)
        table.cut((0, 0))
        for thing in (table, Table(((),)), table.trial(), Desk("none"), BadDrawing(0), NothingLeft(1), FallError()):
            for deed in (iter, list, tuple, sorted, self.go_through):
                self.assertRaises(TypeError, deed, thing)
        self.assertEqual(len(table), 1)

    def go_through(self, thing):
        for _ in thing:
            self.fail("went through it")


class TrialTest(TableTests):

    def begun(self):
        table, row = self.made(COMPANY, (0, 3), (2, 1), (1, 0), (0, 1))
        table.undo(2)
        row.made -= 2
        return table, row

    def deeds(self):
        """Return deeds that a block may do; each leaves the table otherwise than it was."""
        return [
            lambda table: table.cut((0, 0)), lambda table: table.undo(), lambda table: table.undo(2),
            lambda table: table.redo(), lambda table: table.redo(2), lambda table: (table.redo(2), table.cut((0, 0))),
            lambda table: (table.undo(2), table.cut((2, 0)), table.cut((1, 1)), table.undo()),
        ]

    def test_a_block_that_comes_to_its_end(self):
        for deed in self.deeds():
            table, row = self.begun()
            with table.trial() as one:
                self.assertIs(one, table)
                self.stands(table, row)
                deed(one)
                self.assertNotEqual((table.company, len(table)), (row.now(), row.made))
            self.stands(table, row)

    def test_a_block_that_ends_with_an_error(self):
        def refused(table):
            table.cut((9, 9))

        def nothing_left(table):
            table.undo(100)

        def enough(table):
            raise Enough

        for error, last in [(BadMove, refused), (NothingLeft, nothing_left), (Enough, enough),
                            (ZeroDivisionError, lambda table: 1 // 0), (KeyboardInterrupt, self.interrupted)]:
            for deed in self.deeds():
                table, row = self.begun()
                with self.assertRaises(error):
                    with table.trial():
                        deed(table)
                        last(table)
                self.stands(table, row)
                with self.assertRaises(error):
                    under(table.trial(), lambda one, deed=deed, last=last: (deed(one), last(one)))
                self.stands(table, row)

    def interrupted(self, table):
        raise KeyboardInterrupt

    def test_an_error_goes_on_as_it_is(self):
        table, row = self.begun()
        made = Enough("x")
        with self.assertRaises(Enough) as caught:
            with table.trial():
                raise made
        self.assertIs(caught.exception, made)
        self.stands(table, row)

    def test_a_block_that_ends_with_a_value_or_goes_on_with_a_loop(self):
        def value_of(table):
            with table.trial() as one:
                one.cut((0, 0))
                return one.company

        table, row = self.begun()
        self.assertEqual(value_of(table), after_move(row.now(), (0, 0)))
        self.stands(table, row)
        for move in all_moves(row.now()):
            with table.trial():
                table.cut(move)
                if move == (1, 0):
                    continue
                if move == (2, 0):
                    break
            self.stands(table, row)
        self.stands(table, row)

    def test_blocks_within_one_another(self):
        table, row = self.begun()
        with table.trial():
            table.cut((0, 0))
            with table.trial():
                table.undo(3)
                with self.assertRaises(Enough):
                    with table.trial():
                        table.redo(3)
                        raise Enough
                self.assertEqual((len(table), table.company), (0, COMPANY))
                table.redo()
            self.assertEqual((len(table), table.company), (3, after_move(row.now(), (0, 0))))
            self.tells(NothingLeft, "many", 1, table.redo)
        self.stands(table, row)

    def test_the_table_is_as_it_was_when_the_block_began(self):
        table, row = self.begun()
        waiting = table.trial()
        table.cut((0, 0))
        row.cut((0, 0))
        with waiting:
            table.undo(3)
        self.stands(table, row)

    def test_a_trial_that_has_no_block_changes_nothing(self):
        table, row = self.begun()
        table.trial()
        table.cut((0, 0))
        row.cut((0, 0))
        self.stands(table, row)

    def test_two_tables(self):
        (one, row), (other, theirs) = self.begun(), self.made((EXAMPLE,))
        with one.trial(), other.trial():
            one.undo()
            other.cut((0, 0))
        self.stands(one, row)
        self.stands(other, theirs)
        with one.trial():
            other.cut((0, 0))
            theirs.cut((0, 0))
        self.stands(other, theirs)


class Keeper:
    """What keeps errors of a class from going further."""

    def __init__(self, gives, keeps=()):
        self.gives, self.keeps, self.steps = gives, keeps, []

    def __enter__(self):
        self.steps.append("in")
        return self.gives

    def __exit__(self, kind, value, trace):
        self.steps.append(kind)
        return kind is not None and issubclass(kind, self.keeps)


class UnderTest(TableTests):

    def test_what_the_deed_returns(self):
        table, row = self.made(COMPANY, (0, 3))
        for value in [None, True, False, 0, "", (), [1], EQUAL, Enough]:
            given = []
            self.assertIs(under(table.trial(), lambda one, value=value, given=given: given.append(one) or value), value)
            self.assertEqual([one is table for one in given], [True])
        self.assertEqual(under(table.trial(), lambda one: one.cut((0, 0))), 3)
        self.assertEqual(under(table.trial(), Table.copy), table)
        self.assertEqual(under(deed=len, manager=table.trial()), 1)
        self.stands(table, row)

    def test_one_is_what_the_manager_gives(self):
        for gives in [None, 5, (1, 2), COMPANY]:
            keeper = Keeper(gives)
            self.assertEqual(under(keeper, lambda one: [one]), [gives])
            self.assertEqual(keeper.steps, ["in", None])

    def test_an_error_that_goes_no_further(self):
        def deed(one):
            raise Enough(one)

        keeper = Keeper(3, Enough)
        self.assertIsNone(under(keeper, deed))
        self.assertEqual(keeper.steps, ["in", Enough])
        table, row = self.made(COMPANY, (0, 3))
        for wrong in [(9, 9), None]:
            self.assertIsNone(under(Keeper(table, BadMove), lambda one, wrong=wrong: one.cut(wrong)))
        self.assertIsNone(under(Keeper(table, NothingLeft), lambda one: one.undo(2)))
        self.stands(table, row)

    def test_an_error_that_goes_on(self):
        keeper = Keeper(Table(COMPANY), NothingLeft)
        self.tells(BadMove, "given", (9, 9), under, keeper, lambda one: one.cut((9, 9)))
        self.assertEqual(keeper.steps, ["in", BadMove])

    def test_under_within_under(self):
        table, row = self.made(COMPANY, (0, 3))

        def deed(one):
            return one.cut((1, 0)), under(one.trial(), lambda two: two.cut((1, 0))), len(one)

        self.assertEqual(under(table.trial(), deed), (1, 1, 2))
        self.stands(table, row)


class NamesTest(TableTests):

    def test_arguments_by_their_names(self):
        table = Table(company=COMPANY)
        self.assertEqual(table, Table(COMPANY))
        self.assertEqual(table.cut(move=(0, 0)), 4)
        table.cut(move=(1, 0))
        table.undo(many=2)
        self.assertEqual((len(table), table.company), (0, COMPANY))
        table.redo(many=2)
        self.assertEqual(len(table), 2)
        self.assertEqual(under(manager=table.trial(), deed=len), under(table.trial(), len))
        self.tells(BadCompany, "number", None, lambda: Table(company=None))
        self.tells(BadMove, "given", None, lambda: table.cut(move=None))


class LedTest(TableTests):
    """Tables that are led by rows of deeds, each beside a plain row of COMPANIES."""

    def setUp(self):
        self.chance = random.Random("tables")

    def refused(self, table, row):
        """Ask for what a table refuses."""
        back, again = row.made, len(row.moves) - row.made
        wrong = self.chance.choice(NO_NUMBERS)
        kind, name, thing, call = self.chance.choice([
            (BadNumber, "given", wrong, table.undo), (BadNumber, "given", wrong, table.redo),
            (NothingLeft, "many", back + 1, table.undo), (NothingLeft, "many", again + 1, table.redo),
            (BadMove, "given", (0, len(row.now()[0])), table.cut), (BadMove, "given", wrong, table.cut)])
        self.refuses(kind, name, thing, call, thing)

    def block(self, pairs, at, depth):
        """Do deeds in the block of a trial, that ends in one of several ways."""
        table, row = pairs[at]
        kept = row.copy()
        ending = self.chance.choice(["end", "error", "own error", "value"])

        def deed(one):
            self.assertIs(one, table)
            for _ in range(self.chance.randrange(5)):
                self.deed(pairs, depth + 1, at if self.chance.random() < 0.7 else None)
            if ending == "error":
                one.undo(1000)
            if ending == "own error":
                raise Enough
            return "value" if ending == "value" else None

        def in_a_block():
            with table.trial() as one:
                return deed(one)

        call = self.chance.choice([in_a_block, lambda: under(table.trial(), deed)])
        if "error" in ending:
            self.assertRaises(NothingLeft if ending == "error" else Enough, call)
        else:
            self.assertEqual(call(), "value" if ending == "value" else None)
        row.back_to(kept)

    def deed(self, pairs, depth, at=None):
        at = self.chance.randrange(len(pairs)) if at is None else at
        table, row = pairs[at]
        words = ["cut"] * 5 + ["undo"] * 3 + ["redo"] * 3 + ["copy", "refused"] + ["block"] * (depth < 3)
        word = self.chance.choice(words)
        moves, again = all_moves(row.now()), len(row.moves) - row.made
        if word == "cut" and moves:
            move = self.chance.choice(moves)
            self.assertEqual(table.cut(move), row.cut(move))
        elif word == "undo" and row.made:
            many = self.chance.randint(1, row.made)
            self.assertIsNone(table.undo(many))
            row.made -= many
        elif word == "redo" and again:
            many = self.chance.randint(1, again)
            self.assertIsNone(table.redo(many))
            row.made += many
        elif word == "copy" and len(pairs) < 4:
            pairs.append((table.copy(), row.copy()))
        elif word == "block":
            self.block(pairs, at, depth)
        else:
            self.refused(table, row)

    def test_rows_of_deeds(self):
        companies = list(COMPANIES.values()) + [(drawing, EXAMPLE) for drawing in greater_drawings()[::9]]
        for company in companies * 4:
            pairs = [self.made(company), self.made(company), self.made((EXAMPLE,))]
            for _ in range(25):
                self.deed(pairs, 0)
                for table, row in pairs:
                    self.assertEqual((table.company, len(table)), (row.now(), row.made))
            for table, row in pairs:
                self.stands(table, row)
                for other, theirs in pairs:
                    self.assertIs(table == other, row.same(theirs))


if __name__ == "__main__":
    unittest.main()
