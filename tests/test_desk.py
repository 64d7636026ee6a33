"""Points [2], [4] and [16], as far as desks go: fallcuts.desk."""

import random
import unittest

from fallcuts.desk import Desk
from fallcuts.errors import BadCompany, BadText
from fallcuts.table import Table
from fallcuts.texts import company_text
from tests.samples import (
    COMPANIES, EXAMPLE, NO_INTEGERS, Refusals, after_move, all_moves, great_drawings, greater_drawings, won_by_moves,
    worth_by_cuts)

WORDS = ["worths", "won", "answer", "moves", "turn", "edges", "show", "undo", "redo"]


def answer_by_words(word, company, made):
    """Return the answer to a line that changes nothing, by the words of the interface."""
    winning = [move for move in all_moves(company) if not won_by_moves(after_move(company, move))]
    texts = [" ".join("-".join(map(str, edge)) for edge in drawing) or "none" for drawing in company]
    return {
        "worths": " ".join(str(worth_by_cuts(drawing)) for drawing in company),
        "won": "won" if won_by_moves(company) else "lost",
        "answer": " ".join(map(str, winning[0])) if winning else "none",
        "moves": " ".join("-".join(map(str, move)) for move in winning) or "none",
        "turn": str(made % 2),
        "edges": str(sum(map(len, company))),
        "show": " / ".join(texts),
    }[word]


def all_of(table):
    """Return the COMPANIES of a table from its beginning to all that can be done again, and how many are made."""
    other, rows = table.copy(), []
    if len(other):
        other.undo(len(other))
    while True:
        rows.append(other.company)
        try:
            other.redo()
        except RuntimeError:
            return rows, len(table)


class TextTest(Refusals):

    def test_the_table_is_the_very_one(self):
        for company in COMPANIES.values():
            desk = Desk(company_text(company))
            self.assertIs(type(desk.table), Table)
            self.assertIs(desk.table, desk.table)
            self.assertEqual((desk.table.company, len(desk.table)), (company, 0))
            self.assertEqual(desk.table, Table(company))

    def test_the_table_is_told_by_a_property_that_is_not_assigned(self):
        desk = Desk("0-1")
        self.assertIsInstance(vars(Desk)["table"], property)
        self.assertIn("say", vars(Desk))
        self.assertEqual(Desk.__module__, "fallcuts.desk")
        with self.assertRaises(AttributeError):
            desk.table = Table(((),))
        self.assertEqual(desk.say("show"), "0-1")

    def test_errors_as_of_reading(self):
        for text, line, word in [
            (None, None, None), (5, None, None), (True, None, None), (b"0-1", None, None),
            (COMPANIES["four"], None, None), ("", 0, 0), ("0-1 1-02", 0, 1), ("none\nnone 0-1", 1, 1),
            ("0-1\n0-1\n0-1\n0-1\n0-1", 4, 0), ("0-1\n", 1, 0),
        ]:
            with self.assertRaises(BadText) as caught:
                Desk(text)
            self.assertEqual((caught.exception.line, caught.exception.word), (line, word))
        for text, number in [("1-2", 0), ("0-1\n1-0", 1), ("none\nnone\n0-17\n1-1", 2), (" ".join(["0-1"] * 17), 0)]:
            self.tells(BadCompany, "number", number, Desk, text)

    def test_arguments_by_their_names(self):
        desk = Desk(text="0-1\n0-1 1-2")
        told = [desk.say(line="cut 1 0"), desk.say(line="show"), desk.say(line="x")]
        self.assertEqual(told, ["2", "0-1 / none", "no"])
        self.tells(BadCompany, "number", 0, lambda: Desk(text="1-1"))


class SayTest(Refusals):

    def test_some_answers(self):
        desk = Desk("0-1 1-2 1-3 2-3\nnone\n0-16")
        for line, known in [
            ("worths", "2 0 1"), ("won", "won"), ("answer", "0 3"), ("moves", "0-3"), ("turn", "0"), ("edges", "5"),
            ("show", "0-1 1-2 1-3 2-3 / none / 0-16"), ("undo", "nothing"), ("redo", "nothing"), ("cut 0 0", "4"),
            ("turn", "1"), ("undo", "done"), ("turn", "0"), ("undo", "nothing"), ("redo", "done"), ("redo", "nothing"),
            ("show", "none / none / 0-16"), ("answer", "2 0"), ("moves", "2-0"), ("cut 2 0", "1"), ("won", "lost"),
            ("answer", "none"), ("moves", "none"), ("edges", "0"), ("worths", "0 0 0"), ("turn", "0"),
            ("show", "none / none / none"), ("cut 2 0", "no"), ("undo", "done"), ("undo", "done"), ("cut 2 0", "1"),
            ("redo", "nothing"), ("edges", "4"),
        ]:
            told = desk.say(line)
            self.assertEqual((told, type(told)), (known, str), line)

    def test_companies_by_all_moves(self):
        companies = list(COMPANIES.values()) + [(drawing, EXAMPLE) for drawing in greater_drawings()[::7]]
        for company in companies:
            desk = Desk(company_text(company))
            for word in WORDS[:7]:
                self.assertEqual(desk.say(word), answer_by_words(word, company, 0))
            for number, cut in all_moves(company):
                left = after_move(company, (number, cut))
                self.assertEqual(desk.say(f"cut {number} {cut}"), str(sum(map(len, company)) - sum(map(len, left))))
                for word in WORDS[:7]:
                    self.assertEqual(desk.say(word), answer_by_words(word, left, 1))
                self.assertEqual(desk.say("undo"), "done")

    def test_great_companies(self):
        for drawing in great_drawings():
            desk = Desk(company_text((drawing,) * 4))
            self.assertEqual([desk.say("edges"), desk.say("won"), desk.say("answer")], ["64", "lost", "none"])
            self.assertEqual(desk.say("cut 3 15"), str(16 - len(desk.table.company[3])))
            self.assertEqual(desk.say("won"), "won")
            self.assertIn(desk.say("answer").replace(" ", "-"), desk.say("moves").split(" ")[:1])

    def test_the_table_and_the_desk_go_on_together(self):
        desk = Desk("0-1 0-2\n0-1")
        table = desk.table
        self.assertEqual(desk.say("cut 0 1"), "1")
        self.assertEqual((len(table), table.company), (1, (((0, 1),), ((0, 1),))))
        table.cut((1, 0))
        self.assertEqual([desk.say("show"), desk.say("turn"), desk.say("edges")], ["0-1 / none", "0", "1"])
        with table.trial():
            self.assertEqual([desk.say("undo"), desk.say("undo"), desk.say("undo"), desk.say("cut 0 0")],
                             ["done", "done", "nothing", "1"])
        self.assertEqual([desk.say("show"), desk.say("redo"), desk.say("undo"), desk.say("show")],
                         ["0-1 / none", "nothing", "done", "0-1 / 0-1"])
        self.assertIs(desk.table, table)

    def test_two_desks_go_on_by_themselves(self):
        one, other = Desk("0-1"), Desk("0-1")
        one.say("cut 0 0")
        self.assertEqual([one.say("edges"), other.say("edges")], ["0", "1"])


class NoTest(Refusals):

    def desks(self):
        """Return desks at which something can be taken back, done again, both, or nothing."""
        made = [Desk("0-1 0-2 0-3 1-2\n0-1\nnone"), Desk("none"), Desk("0-1 1-2"), Desk(company_text((EXAMPLE,) * 4))]
        for desk in made[2:]:
            desk.say("cut 0 1")
        made[3].say("cut 1 0")
        made[3].say("undo")
        return made

    def refused(self, *lines):
        for desk in self.desks():
            known = all_of(desk.table)
            for line in lines:
                self.assertEqual(desk.say(line), "no", line)
                self.assertIs(type(desk.say(line)), str)
            self.assertEqual(all_of(desk.table), known)

    def test_things_that_are_no_strings(self):
        things = [thing for thing in NO_INTEGERS if not isinstance(thing, str)]
        self.refused(*things, b"won", b"undo", ["won"], ("undo",), ["cut", "0", "0"], {"undo": 1}, {"redo"}, 10 ** 39,
                     Desk("none"), Table(((),)), ("cut 0 0",), [["cut 0 0"]])

    def test_words_more_or_less(self):
        for word in WORDS:
            self.refused(word + " 0", word + " " + word, word + " none", word + " 1 1", "0 " + word)
            self.refused(word[:-1], word[1:], word + "s")
        self.refused("cut", "cut 0", "cut 0 0 0", "cut 0 0 none", "0 0", "cut cut 0 0", "0 cut 0", "undo 1", "redo 1")

    def test_blanks_and_newlines(self):
        for word in WORDS + ["cut 0 0"]:
            self.refused(word + " ", " " + word, word + "  ", "  " + word, word + "\n", "\n" + word, word + "\nwon")
        self.refused("cut  0 0", "cut 0  0", "cut\n0 0", "cut 0\n0", "cut0 0", "cut 00", "cut 0,0", "cut\t0 0")
        self.refused("", " ", "\n", "  ", "~", "no", "none", "done", "nothing", "lost", " " * 20000, "undo\n" * 4000)

    def test_words_otherwise_written(self):
        for word in WORDS + ["cut 0 0"]:
            self.refused(word.upper(), word.title(), word[::-1], "-" + word, word + ".", f"'{word}'")

    def refused_cuts(self, *numbers):
        for number in numbers:
            self.refused(f"cut {number} 0", f"cut 0 {number}", f"cut {number} {number}")

    def test_numbers_otherwise_written(self):
        self.refused_cuts(
            "00", "01", "000", "001", "+0", "-0", "-1", "0.0", "0x0", "1e0", "none", "a", "", "0-0", "100", "1_0",
            "None", "True", "\u0660", "\u00b2", "0" * 50, "9" * 40, "(0)")

    def test_moves_that_cannot_be_made(self):
        self.refused("cut 4 0", "cut 99 0", "cut 0 99", "cut 0 16", "cut 3 17", "cut 99 99", "cut 2 9", "cut 10 10")
        desk = Desk("none\n0-1 0-2\n0-1")
        for number in range(12):
            for cut in range(12):
                known = "1" if (number, cut) in [(1, 0), (1, 1), (2, 0)] else "no"
                self.assertEqual(desk.say(f"cut {number} {cut}"), known)
                if known == "1":
                    self.assertEqual(desk.say("undo"), "done")
        self.assertEqual(desk.say("show"), "none / 0-1 0-2 / 0-1")

    def test_cuts_with_two_figures(self):
        desk = Desk(" ".join(["0-1"] * 16))
        self.assertEqual([desk.say("cut 0 15"), desk.say("cut 0 15"), desk.say("cut 0 10")], ["1", "no", "1"])

    def test_what_is_refused_leaves_what_can_be_done_again(self):
        desk = Desk("0-1 0-2 0-3")
        for line, known in [
            ("cut 0 0", "1"), ("cut 0 0", "1"), ("undo", "done"), ("cut 0 5", "no"), ("cut 0 00", "no"), ("x", "no"),
            ("redo", "done"), ("redo", "nothing"), ("cut 1 0", "no"), ("undo", "done"), ("undo", "done"),
            ("undo", "nothing"), ("redo", "done"), ("redo", "done"), ("show", "0-3"),
        ]:
            self.assertEqual(desk.say(line), known, line)


class LedTest(Refusals):

    def test_rows_of_lines(self):
        chance = random.Random("desks")
        for company in list(COMPANIES.values()) * 4:
            desk, rows, made = Desk(company_text(company)), [company], 0
            for _ in range(30):
                line = chance.choice(WORDS + ["undo", "redo", "x"] + ["cut"] * 6)
                moves, known = all_moves(rows[made]), "no"
                if line == "cut" and moves:
                    number, cut = chance.choice(moves)
                    rows[made + 1:] = [after_move(rows[made], (number, cut))]
                    made, line = made + 1, f"cut {number} {cut}"
                    known = str(sum(map(len, rows[made - 1])) - sum(map(len, rows[made])))
                elif line == "undo":
                    known = "done" if made else "nothing"
                    made -= known == "done"
                elif line == "redo":
                    known = "done" if made < len(rows) - 1 else "nothing"
                    made += known == "done"
                elif line in WORDS:
                    known = answer_by_words(line, rows[made], made)
                self.assertEqual(desk.say(line), known, line)
                self.assertEqual((desk.table.company, len(desk.table)), (rows[made], made))
            self.assertEqual(all_of(desk.table), (rows, made))


if __name__ == "__main__":
    unittest.main()
