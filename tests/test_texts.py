"""Point [16]: fallcuts.texts."""

import itertools
import random
import re
import unittest

from fallcuts.errors import BadCompany, BadDrawing, BadText
from fallcuts.texts import company_text, drawing_text, read_company, read_drawing
from tests.samples import (
    COMPANIES, DRAWINGS, EQUAL, EXAMPLE, NO_INTEGERS, WRONG_COMPANIES, WRONG_DRAWINGS, Edge, Refusals, all_samples,
    great_drawings, greater_drawings, hanging)

NO_STRINGS = [thing for thing in NO_INTEGERS if not isinstance(thing, str)] + [0, 1, b"0-1", ["0-1"], ("0-1",), EXAMPLE]

# Words that have no right form, whatever stands beside them.
WRONG_WORDS = [
    "", "0", "1", "-", "--", "0-", "-0", "-1", "0--1", "0-1-", "-0-1", "0-1-2", "00-1", "0-00", "01-2", "1-02", "0-01",
    "100-1", "0-100", "0-001", "000-0", "+0-1", "0-+1", "0_1", "0:1", "0,1", "0-1,", "(0-1)", "a-b", "0-a", "a-1",
    "0-1a", "0x1-2", "1e1-2", "0.0-1", "None", "NONE", "none.", "nonee", "non", "0-none", "none-0", "0-1none",
    "1-1_0", "~", "0-1\t", "0-1\r", "\u0660-\u0661", "0-\u00b2", "\uff10-1",
]
# Words that have the form, those that are no EDGE among them.
RIGHT_WORDS = ["0-0", "0-1", "1-2", "16-16", "9-10", "1-0", "0-17", "99-99", "10-0", "0-99"]


def after_form(text, most):
    """Return what the lines of a text have, or the line and the word that cannot stand there, by the words of [16]."""
    rows = []
    for line, words in enumerate(row.split(" ") for row in text.split("\n")):
        if line == most:
            return (most, 0)
        for at, word in enumerate(words):
            if "none" in words[:1] and at > 0:
                return (line, at)
            if not re.fullmatch("(0|[1-9][0-9]?)-(0|[1-9][0-9]?)", word) and (word, at) != ("none", 0):
                return (line, at)
        rows.append(tuple(tuple(map(int, word.split("-"))) for word in words if word != "none"))
    return rows


def place_of(row):
    """Return what BadDrawing is made with of a row of pairs, by the words of [3]; "right" of a drawing."""
    if len(row) > 16:
        return None
    for k, (low, high) in enumerate(row):
        if not low <= high <= 16 or (k > 0 and (low, high) < row[k - 1]):
            return k
    return "right" if len(hanging(row)) == len(row) else "ground"


class TextTests(Refusals):

    def refused_at(self, line, word, call, text):
        """Ask for a BadText with two integers, or None twice."""
        with self.assertRaises(BadText) as caught:
            call(text)
        told = (caught.exception.line, caught.exception.word)
        self.assertEqual((type(caught.exception), told), (BadText, (line, word)), text)
        self.assertEqual([type(part) for part in told], [type(line), type(word)])

    def drawing_as_by_words(self, text):
        known = after_form(text, 1)
        if isinstance(known, tuple):
            self.refused_at(*known, read_drawing, text)
        elif place_of(known[0]) != "right":
            self.tells(BadDrawing, "place", place_of(known[0]), read_drawing, text)
        else:
            self.assertEqual(read_drawing(text), known[0])

    def company_as_by_words(self, text):
        known = after_form(text, 4)
        if isinstance(known, tuple):
            self.refused_at(*known, read_company, text)
            return
        wrong = [number for number, row in enumerate(known) if place_of(row) != "right"]
        if wrong:
            self.tells(BadCompany, "number", wrong[0], read_company, text)
        else:
            self.assertEqual(read_company(text), tuple(known))

    def as_by_words(self, text):
        self.drawing_as_by_words(text)
        self.company_as_by_words(text)


class TellingTest(TextTests):

    def test_some_drawings(self):
        for drawing, text in [
            ((), "none"), (((0, 0),), "0-0"), (((0, 16), (16, 16)), "0-16 16-16"), (EXAMPLE, "0-1 1-2 1-3 2-3"),
            (((0, 1), (0, 1)), "0-1 0-1"), (((0, 9), (9, 10)), "0-9 9-10"),
            (DRAWINGS["sixteen on the ground"], " ".join(f"0-{k}" for k in range(1, 17))),
        ]:
            self.assertEqual(drawing_text(drawing), text)
            self.assertIs(type(drawing_text(drawing)), str)
            self.assertEqual(read_drawing(text), drawing)

    def test_some_companies(self):
        for company, text in [
            (((),), "none"), (((), (), (), ()), "none\nnone\nnone\nnone"), ((EXAMPLE,), "0-1 1-2 1-3 2-3"),
            ((((0, 1), (1, 2)), ()), "0-1 1-2\nnone"), (((), ((0, 0),), ((0, 16),)), "none\n0-0\n0-16"),
        ]:
            self.assertEqual(company_text(company), text)
            self.assertIs(type(company_text(company)), str)
            self.assertEqual(read_company(text), company)

    def test_what_is_told_is_read_back(self):
        drawings = all_samples() + greater_drawings() + great_drawings()
        for drawing in drawings:
            self.assertEqual(read_drawing(drawing_text(drawing)), drawing)
        for at in range(len(drawings) - 3):
            company = tuple(drawings[at:at + 1 + at % 4])
            self.assertEqual(read_company(company_text(company)), company)
        for company in COMPANIES.values():
            self.assertEqual(read_company(company_text(company)), company)

    def test_a_company_has_a_line_for_each_drawing(self):
        for company in COMPANIES.values():
            self.assertEqual(company_text(company).split("\n"), [drawing_text(drawing) for drawing in company])

    def test_tuples_that_are_told_are_plain(self):
        told = read_company("0-1 1-2\nnone")
        for thing in (told, *told, *told[0], read_drawing("none"), read_drawing("0-1"), *read_drawing("0-1")):
            self.assertIs(type(thing), tuple)
        self.assertEqual(drawing_text((Edge(0, 1), Edge(1, 10))), "0-1 1-10")

    def test_wrong_drawings_and_companies(self):
        for wrong, place in WRONG_DRAWINGS:
            self.tells(BadDrawing, "place", place, drawing_text, wrong)
        for wrong, number in WRONG_COMPANIES:
            self.tells(BadCompany, "number", number, company_text, wrong)


class ReadingTest(TextTests):

    def test_things_that_are_no_strings(self):
        for call in (read_drawing, read_company):
            for wrong in NO_STRINGS:
                if wrong is not EQUAL:
                    self.refused_at(None, None, call, wrong)
            self.refused_at(None, None, call, EQUAL)

    def test_the_empty_text_and_empty_lines(self):
        for text, line, word in [
            ("", 0, 0), (" ", 0, 0), ("\n", 0, 0), ("\n0-1", 0, 0), ("0-1\n", 1, 0), ("none\n", 1, 0),
            ("0-1\n\n", 1, 0), ("none\n ", 1, 0),
        ]:
            self.refused_at(line, word, read_drawing, text)
            self.refused_at(line, word, read_company, text)
        self.refused_at(2, 0, read_company, "0-1\nnone\n\n0-1")
        self.refused_at(4, 0, read_company, "0-1\n0-1\n0-1\n0-1\n")

    def test_none_ahead_of_or_behind_another_word(self):
        for text, word in [
            ("none 0-1", 1), ("none none", 1), ("none ", 1), ("none  ", 1), ("none 0", 1), ("0-1 none", 1),
            (" none", 0), ("0-1 1-2 none", 2), ("0-1 none 1-2", 1), ("0-1 none none", 1), ("none 0-1 x", 1),
            ("x none", 0),
        ]:
            self.refused_at(0, word, read_drawing, text)
            self.refused_at(0, word, read_company, text)
            self.refused_at(1, word, read_company, "0-1\n" + text)

    def test_blanks_too_many(self):
        for text, word in [(" 0-1", 0), ("0-1 ", 1), ("0-1  1-2", 1), ("0-1 1-2  ", 2), ("0-1 1-2  1-3", 2)]:
            self.refused_at(0, word, read_drawing, text)
            self.refused_at(3, word, read_company, "none\nnone\nnone\n" + text)

    def test_words_that_cannot_stand_anywhere(self):
        for wrong in WRONG_WORDS:
            for ahead in ([], ["0-1"], ["0-1", "1-2"], ["0-1"] * 20, ["9-0", "99-99"]):
                for behind in ([], ["0-1"], [wrong]):
                    text = " ".join([*ahead, wrong, *behind])
                    self.refused_at(0, len(ahead), read_drawing, text)
                    self.refused_at(2, len(ahead), read_company, f"0-1\nnone\n{text}\nx")

    def test_words_with_the_form_that_are_no_edges(self):
        for text, place in [
            ("1-0", 0), ("0-17", 0), ("17-17", 0), ("99-99", 0), ("0-1 2-1", 1), ("0-2 0-1", 1), ("1-2", "ground"),
            ("0-1 2-3", "ground"), ("16-16", "ground"), ("0-0 10-99", 1), (" ".join(["0-1"] * 17), None),
            (" ".join(["9-0"] * 17), None), ("0-1 1-2 0-3", 2),
        ]:
            self.tells(BadDrawing, "place", place, read_drawing, text)
            self.tells(BadCompany, "number", 0, read_company, text)
            self.tells(BadCompany, "number", 1, read_company, f"none\n{text}\n9-9")

    def test_a_wrong_form_is_told_ahead_of_what_is_no_drawing(self):
        self.refused_at(0, 1, read_drawing, "1-0 x")
        self.refused_at(0, 17, read_drawing, " ".join(["1-0"] * 17 + ["none"]))
        self.refused_at(1, 0, read_drawing, "1-0\n0-1")
        self.refused_at(3, 1, read_company, "1-0\n2-2\n17-17\n0-1 01-1")
        self.refused_at(4, 0, read_company, "1-0\n2-2\n17-17\n1-1\n0-1")

    def test_lines_too_many(self):
        for text in ["0-1\n0-1", "none\nnone", "0-1\nx", "none\n0-1 x", "0-1\n\n", "0-1\nnone\nnone\nnone\nnone"]:
            self.refused_at(1, 0, read_drawing, text)
        for last in ["0-1", "none", "x", "", "0-1 x", " ", "none\nnone"]:
            self.refused_at(4, 0, read_company, "0-1\nnone\n0-1\nnone\n" + last)
        # What is wrong in a line ahead is told first.
        self.refused_at(0, 1, read_drawing, "0-1 x\n0-1")
        self.refused_at(3, 0, read_company, "0-1\n0-1\n0-1\nx\n0-1")

    def test_all_short_rows_of_words(self):
        words = ["0-1", "1-1", "none", "", "0-01", "1-0", "0-1-1", "0", "16-17"]
        for many in range(1, 4):
            for row in itertools.product(words, repeat=many):
                for ends in itertools.product(" \n", repeat=many - 1):
                    self.as_by_words("".join(word + end for word, end in zip(row, (*ends, ""))))

    def test_texts_near_right_ones(self):
        chance = random.Random("texts")
        told = [company_text(tuple(company)) for company in zip(greater_drawings(), [(), EXAMPLE] * 50)]
        told += [drawing_text(drawing) for drawing in great_drawings()] + ["none", "0-1\nnone\n0-0 0-16\nnone"]
        for text in told:
            for _ in range(20):
                at = chance.randrange(len(text) + 1)
                sign = chance.choice(["", "0", "1", "9", "-", " ", "\n", "none", "x", " 0-1", "\nnone"])
                self.as_by_words(text[:at] + sign + text[at + chance.randrange(3):])

    def test_chance_texts(self):
        chance = random.Random("more texts")
        words = RIGHT_WORDS + ["0-1", "0-2", "1-2", "2-2"] * 4 + ["none"] * 3 + WRONG_WORDS[::5]
        for _ in range(3000):
            rows = [chance.choices(words, k=chance.choice([1, 1, 1, 2, 3])) for _ in range(chance.randrange(1, 6))]
            self.as_by_words("\n".join(" ".join(row) for row in rows))

    def test_great_texts(self):
        self.tells(BadDrawing, "place", None, read_drawing, " ".join(["0-1"] * 5000))
        self.refused_at(0, 5000, read_drawing, " ".join(["0-1"] * 5000 + [""]))
        self.refused_at(0, 0, read_drawing, "0" * 20000)
        self.refused_at(0, 0, read_company, "\n" * 20000)
        self.refused_at(4, 0, read_company, "none\n" * 4000)
        self.refused_at(0, 1, read_company, "none" + " " * 19000)


if __name__ == "__main__":
    unittest.main()
