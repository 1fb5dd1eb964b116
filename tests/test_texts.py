"""Texts of rows and of outages (points 50 and 51), and comparing them (point 52)."""

import re

from breakerrow.errors import InvalidOutages, InvalidRow, InvalidText
from breakerrow.rows import Row
from breakerrow.texts import format_outages, format_row, parse_outages, parse_row, same_text
from tests.played import random_outages, random_row
from tests.support import NOT_INTEGERS, Case, seeded

MOST = 10 ** 30
ROW = Row([(2, 3, 1)], 10)
TEXT = "row 10 0\nbreaker 2 3 1"
NO_STRINGS = tuple(value for value in NOT_INTEGERS if not isinstance(value, str)) + (
    0, 7, ["row 10 0"], ("row 10 0",), {"row 10 0"}, {"row 10 0": 1}, b"row 10 0", ROW, [ROW])
NUMBER = re.compile("0|[1-9][0-9]*")
WORDS = ("row", "breaker", "outage", "0", "1", "10", "007", "00", "01", "-1", "+1", "-0", "x", "", "Row", "rows", "1x",
         "1.0", "1_0", "0x1", "\t", "1\t", "\t1", "\r", "1\r", "1,", "10" * 3000)


def great_row(source):
    """Return a row with numbers of all lengths up to the limits."""
    def great(most):
        return min(most, source.randint(1, 10 ** source.randint(0, len(str(most)) - 1)))
    breakers = [(great(10 ** 12), great(MOST), great(10 ** 12)) for place in range(source.randint(0, 12))]
    return Row(breakers, great(MOST), phase=source.choice((0, great(MOST))))


def greatest_row():
    return Row([(10 ** 12, MOST, 10 ** 12)] * 12, MOST, phase=MOST)


def most_outages():
    return [(2 * at, 2 * at + 1) for at in range(49)] + [(MOST - 1, MOST)]


def first_fault(lines, forms):
    """Return (line, word) of the first fault of lines of words, None if there is none.

    `forms` gives for the number of a line its first word and the number of its numbers.
    """
    for at, words in enumerate(lines):
        first, count = forms(at)
        for place, word in enumerate(words):
            if place > count or (word != first if place == 0 else not NUMBER.fullmatch(word)):
                return at, place
        if len(words) < count + 1:
            return at, len(words)
    return None


def row_form(at):
    return ("breaker", 3) if at else ("row", 2)


def outage_form(at):
    return "outage", 2


def changed_lines(source, lines):
    """Return lines of words in which some words or lines are replaced, left out, doubled or put in, or cut off."""
    lines = [list(words) for words in lines]
    for turn in range(source.choice((1, 1, 1, 2))):
        at = source.randint(0, len(lines) - 1)
        words = lines[at]
        place = source.randint(0, len(words) - 1)
        kind = source.randint(0, 8)
        if kind == 0:
            words[place] = source.choice(WORDS)
        elif kind == 1:
            words[place:place + 1] = []
        elif kind == 2:
            words.insert(place, words[place])
        elif kind == 3:
            words.insert(source.randint(0, len(words)), source.choice(WORDS))
        elif kind == 4:
            lines[at:at + 1] = []
        elif kind == 5:
            lines.insert(at, list(words))
        elif kind == 6:
            lines.insert(source.randint(0, len(lines)), source.choice(([""], [source.choice(WORDS)])))
        elif kind == 7:
            del words[place:]
        else:
            del lines[at:]
        # A line without words is an empty line, with one empty word; a text without lines has one empty line.
        lines = [words or [""] for words in lines] or [[""]]
    return lines


def joined(lines):
    return "\n".join(" ".join(words) for words in lines)


class Formats(Case):

    def test_the_example(self):
        self.assertEqual(format_row(ROW), TEXT)
        self.assertEqual(format_row(row=ROW), TEXT)

    def test_rows(self):
        self.assertEqual(format_row(Row([], 1)), "row 1 0")
        self.assertEqual(format_row(Row([], 7, phase=12)), "row 7 12")
        self.assertEqual(format_row(Row([(1, 2, 3), (40, 50, 60)], 7, phase=12)),
                         "row 7 12\nbreaker 1 2 3\nbreaker 40 50 60")
        zeros, fewer = "1" + "0" * 30, "1" + "0" * 12
        self.assertEqual(format_row(greatest_row()),
                         "\n".join([f"row {zeros} {zeros}"] + [f"breaker {fewer} {zeros} {fewer}"] * 12))

    def test_outages(self):
        self.assertEqual(format_outages([]), "")
        self.assertEqual(format_outages([(0, 1)]), "outage 0 1")
        self.assertEqual(format_outages(outages=[(3, 40), (41, 42)]), "outage 3 40\noutage 41 42")
        lines = [f"outage {2 * at} {2 * at + 1}" for at in range(49)] + ["outage " + "9" * 30 + " 1" + "0" * 30]
        self.assertEqual(format_outages(most_outages()), "\n".join(lines))

    def test_values_that_are_no_outages(self):
        values = (None, True, 0, "", "outage 0 1", b"", (), ((0, 1),), {}, set(), object(), range(2), ROW,
                  [(2 * at, 2 * at + 1) for at in range(51)])
        for value in values:
            with self.subTest(value=value):
                self.assert_error(InvalidOutages, {"at": -1}, format_outages, value)
        items = NOT_INTEGERS + (1, (1, 2, 3), [1, 2], (2, 2), (3, 2), (-1, 2), (True, 2), (0, True), (0, MOST + 1),
                                ("0", "1"), ({}, 2), (0, None))
        for item in items:
            with self.subTest(item=item):
                self.assert_error(InvalidOutages, {"at": 0}, format_outages, [item])
                self.assert_error(InvalidOutages, {"at": 2}, format_outages, [(0, 1), (2, 3), item, None])
        self.assert_error(InvalidOutages, {"at": 1}, format_outages, [(0, 4), (4, 9)])

    def test_the_list_is_not_modified(self):
        outages = most_outages()
        format_outages(outages)
        self.assertEqual(outages, most_outages())


class Parses(Case):

    def test_the_examples(self):
        self.assert_error(InvalidText, {"line": 1, "word": 2}, parse_row, "row 10 0\nbreaker 2 x 1")
        self.assert_error(InvalidText, {"line": 0, "word": 2}, parse_row, "row 10")
        self.assertEqual(parse_row(text=TEXT), ROW)
        self.assertEqual(parse_outages(text="outage 3 40"), [(3, 40)])

    def test_texts_give_the_row_and_the_outages_back(self):
        source = seeded("texts")
        rows = [great_row(source) for turn in range(200)] + [random_row(source) for turn in range(200)]
        for row in rows + [greatest_row(), Row([], 1), Row([], MOST, phase=MOST)]:
            self.assertEqual(parse_row(format_row(row)), row)
        for outages in [random_outages(source, 50) for turn in range(100)] + [most_outages(), []]:
            told = parse_outages(format_outages(outages))
            self.assertEqual(told, outages)
            self.assertEqual((type(told), {type(outage) for outage in told}), (list, {tuple for outage in told}))

    def test_each_change_beside_the_first_fault(self):
        source = seeded("changed texts")
        met = {}
        for turn in range(4000):
            if turn < 2500:
                text, parse, form = format_row(random_row(source)), parse_row, row_form
            else:
                text, parse, form = format_outages(random_outages(source) or [(0, 7)]), parse_outages, outage_form
            lines = changed_lines(source, [line.split(" ") for line in text.split("\n")])
            text = joined(lines)
            fault = None if form == outage_form and text == "" else first_fault(lines, form)
            if fault:
                self.assert_error(InvalidText, {"line": fault[0], "word": fault[1]}, parse, text)
            else:
                try:
                    self.assertIn(parse(text), (self.expected(lines, form),))
                except (InvalidRow, InvalidOutages):
                    self.assertRaises((InvalidRow, InvalidOutages), self.expected, lines, form)
            met[fault] = met.get(fault, 0) + 1
        self.assertTrue({(0, 0), (0, 1), (0, 2), (0, 3), (1, 0), (1, 1), (1, 2), (1, 3), (1, 4), None} <= set(met))

    def expected(self, lines, form):
        """Return what lines without a fault stand for, or raise what is wrong with it."""
        if lines == [[""]]:
            return []
        numbers = [tuple(int(word[:40]) for word in words[1:]) for words in lines]
        if form == outage_form:
            format_outages(numbers)
            return numbers
        return Row(numbers[1:], numbers[0][0], phase=numbers[0][1])

    def test_cut_off_behind_each_character(self):
        text = "row 10 0\nbreaker 2 30 1\nbreaker 10 5 21"
        for length in range(len(text) + 1):
            part = text[:length]
            fault = first_fault([line.split(" ") for line in part.split("\n")], row_form)
            if fault:
                self.assert_error(InvalidText, {"line": fault[0], "word": fault[1]}, parse_row, part)
            else:
                self.assertEqual(format_row(parse_row(part)), part)

    def test_wrong_rows_word_by_word(self):
        for text, line, word in (
                ("", 0, 0), (" ", 0, 0), ("\n", 0, 0), ("row", 0, 1), ("row ", 0, 1), ("row 1", 0, 2), ("row 1 ", 0, 2),
                ("row 1 0 ", 0, 3), ("row 1 0 0", 0, 3), (" row 1 0", 0, 0), ("row  1 0", 0, 1), ("row 1  0", 0, 2),
                ("row 1 0\n", 1, 0), ("row 1 0\n\n", 1, 0), ("\nrow 1 0", 0, 0), ("row 1 0\n ", 1, 0),
                ("row 1 0\r\nbreaker 1 1 1", 0, 2), ("row\t1 0", 0, 0), ("row 01 0", 0, 1), ("row 1 00", 0, 2),
                ("row -1 0", 0, 1), ("row +1 0", 0, 1), ("row 1 -0", 0, 2), ("Row 1 0", 0, 0), ("rows 1 0", 0, 0),
                ("row 1_0 0", 0, 1), ("row 1.0 0", 0, 1), ("row 0x1 0", 0, 1), ("row 1 0\nrow 1 0", 1, 0),
                ("breaker 1 1 1", 0, 0), ("breaker 1 1 1\nrow 1 0", 0, 0), ("row 1 0\nbreaker", 1, 1),
                ("row 1 0\nbreaker 1 1", 1, 3), ("row 1 0\nbreaker 1 1 1 1", 1, 4), ("row 1 0\nbreaker 1 1 1 ", 1, 4),
                ("row 1 0\nbreaker 1 1 1\n", 2, 0), ("row 1 0\nbreaker 1 1 1\n\nbreaker 1 1 1", 2, 0),
                ("row 1 0\nbreaker  1 1 1", 1, 1), ("row 1 0\nbreaker 1 01 1", 1, 2), ("row 1 0\noutage 1 2", 1, 0),
                ("row x y\nbreaker z", 0, 1), ("row 1 0\nbreaker 1 1 1\nbreaker 1 1 x", 2, 3), ("row 1 0 x y", 0, 3)):
            with self.subTest(text=text):
                self.assert_error(InvalidText, {"line": line, "word": word}, parse_row, text)

    def test_wrong_outages_word_by_word(self):
        self.assertEqual(parse_outages(""), [])
        for text, line, word in (
                (" ", 0, 0), ("\n", 0, 0), ("\n\n", 0, 0), ("outage", 0, 1), ("outage 1", 0, 2), ("outage 1 ", 0, 2),
                ("outage 1 2 ", 0, 3), ("outage 1 2 3", 0, 3), (" outage 1 2", 0, 0), ("outage  1 2", 0, 1),
                ("outage 1 2\n", 1, 0), ("\noutage 1 2", 0, 0), ("outage 1 2\n\noutage 4 5", 1, 0),
                ("outage 01 2", 0, 1), ("outage 1 +2", 0, 2), ("outages 1 2", 0, 0), ("outage 1 2\noutage 4 x", 1, 2),
                ("row 1 0", 0, 0), ("outage 1 2\nbreaker 1 1 1", 1, 0)):
            with self.subTest(text=text):
                self.assert_error(InvalidText, {"line": line, "word": word}, parse_outages, text)

    def test_what_is_no_string(self):
        for value in NO_STRINGS:
            with self.subTest(value=value):
                for parse in (parse_row, parse_outages):
                    self.assert_error(InvalidText, {"line": -1, "word": -1}, parse, value)

    def test_right_texts_of_numbers_that_make_no_row(self):
        great = "1" + "0" * 30
        for text, part, at in (
                ("row 0 0", "step", -1), (f"row {great} 0", None, 0), (f"row {great[:-1]}1 0", "step", -1),
                (f"row 1{great} 0", "step", -1), (f"row {'9' * 31} 0", "step", -1), (f"row {'9' * 30} 0", None, 0),
                (f"row 1 {great}", None, 0), (f"row 1 {MOST + 1}", "phase", -1), (f"row 0 {MOST + 1}", "step", -1),
                ("row 1 0\nbreaker 0 1 1", "breakers", 0), ("row 0 0\nbreaker 1 0 1", "breakers", 0),
                ("row 1 0\nbreaker 1 1 1\nbreaker 1 1 0\nbreaker 0 0 0", "breakers", 1),
                (f"row 1 0\nbreaker {10 ** 12 + 1} 1 1", "breakers", 0),
                (f"row 1 0\nbreaker 1 {MOST + 1} 1", "breakers", 0),
                (f"row 1 0\nbreaker 1 1 {10 ** 12 + 1}", "breakers", 0),
                (f"row 1 0\nbreaker {10 ** 12} {MOST} {10 ** 12}", None, 0),
                ("row 1 0" + "\nbreaker 1 1 1" * 12, None, 0), ("row 1 0" + "\nbreaker 1 1 1" * 13, "breakers", -1),
                ("row 0 0" + "\nbreaker 0 0 0" * 14, "breakers", -1)):
            with self.subTest(text=text):
                if part is None:
                    self.assertEqual(format_row(parse_row(text)), text)
                else:
                    self.assert_error(InvalidRow, {"part": part, "at": at}, parse_row, text)

    def test_right_texts_of_numbers_that_make_no_outages(self):
        for text, at in (("outage 2 2", 0), ("outage 3 2", 0), (f"outage 0 {MOST + 1}", 0), ("outage 0 0", 0),
                         ("outage 0 4\noutage 4 9", 1), ("outage 0 4\noutage 5 9\noutage 6 7\noutage 1 1", 2),
                         ("\n".join(["outage 1 2"] * 51), -1), ("\n".join(["outage 1 2"] * 50), 1)):
            with self.subTest(text=text):
                self.assert_error(InvalidOutages, {"at": at}, parse_outages, text)

    def test_the_form_comes_before_the_numbers(self):
        self.assert_error(InvalidText, {"line": 14, "word": 3}, parse_row, "row 0 0" + "\nbreaker 0 0 0" * 13
                          + "\nbreaker 0 0 ")
        self.assert_error(InvalidText, {"line": 51, "word": 0}, parse_outages, "outage 2 2\n" * 51)

    def test_numbers_of_very_many_digits(self):
        for digits in (32, 33, 500, 4300, 4301, 20000):
            number = "9" * digits
            for text, part, at in (
                    (f"row {number} 0", "step", -1), (f"row 1 {number}", "phase", -1),
                    (f"row 1 0\nbreaker {number} 1 1", "breakers", 0),
                    (f"row {number} {number}\nbreaker 1 1 1\nbreaker 1 1{'0' * digits} 1", "breakers", 1)):
                self.assert_error(InvalidRow, {"part": part, "at": at}, parse_row, text)
                self.assertIs(same_text(text, text), False)
            self.assert_error(InvalidText, {"line": 0, "word": 2}, parse_row, f"row {number} 0{number}")
            self.assert_error(InvalidText, {"line": 0, "word": 1}, parse_row, f"row {number}x 0")
            self.assert_error(InvalidOutages, {"at": 0}, parse_outages, f"outage 1 {number}")
            self.assert_error(InvalidOutages, {"at": 1}, parse_outages, f"outage 0 1\noutage {number} 1{number}")


class SameTexts(Case):

    def test_the_example(self):
        self.assertIs(same_text("row 10 0", "row 10 1"), False)
        self.assertIs(same_text(one=TEXT, other=TEXT), True)
        self.assertIs(same_text(other="row 10 0", one=TEXT), False)

    def test_equal_and_unequal_rows(self):
        source = seeded("same texts")
        rows = [great_row(source) for turn in range(30)]
        for row in rows:
            for other in rows + [Row(row.breaker_list(), row.step_length(), phase=row.phase_time())]:
                self.assertIs(same_text(format_row(row), format_row(other)), row == other)

    def test_each_part_counts(self):
        for other in ("row 11 0\nbreaker 2 3 1", "row 10 1\nbreaker 2 3 1", "row 10 0\nbreaker 1 3 1",
                      "row 10 0\nbreaker 2 4 1", "row 10 0\nbreaker 2 3 2", TEXT + "\nbreaker 2 3 1", "row 10 0"):
            self.assertIs(same_text(TEXT, other), False)
            self.assertIs(same_text(other, TEXT), False)
            self.assertIs(same_text(other, other), True)

    def test_strings_that_are_no_texts_of_rows(self):
        for text in ("", " ", "x", "row", "row 10", "row 010 0", TEXT + "\n", " " + TEXT, "row 0 0", "outage 1 2",
                     "row 10 0\nbreaker 0 1 1", "row 10 0" + "\nbreaker 1 1 1" * 13, f"row 1 {MOST + 1}"):
            with self.subTest(text=text):
                self.assertIs(same_text(text, text), False)
                self.assertIs(same_text(text, TEXT), False)
                self.assertIs(same_text(TEXT, text), False)

    def test_all_other_objects(self):
        for value in NO_STRINGS:
            with self.subTest(value=value):
                self.assertIs(same_text(value, value), False)
                self.assertIs(same_text(value, TEXT), False)
                self.assertIs(same_text(TEXT, value), False)
