"""Texts of rows and of outages."""

from breakerrow.errors import InvalidRow, InvalidText
from breakerrow.outages import check_outages
from breakerrow.rows import Row

MOST_DIGITS = 32


def line_of(word, numbers):
    """Return the line with a word and some numbers."""
    return " ".join([word] + [str(number) for number in numbers])


def format_row(row):
    """Return the text of a row."""
    lines = [line_of("row", (row.step, row.phase))]
    return "\n".join(lines + [line_of("breaker", breaker) for breaker in row.breakers])


def format_outages(outages):
    """Return the text of a list of outages."""
    check_outages(outages)
    return "\n".join([line_of("outage", outage) for outage in outages])


def lines_of(text):
    """Return the lines of a text."""
    if not isinstance(text, str):
        raise InvalidText(-1, -1)
    return text.split("\n")


def is_number(word):
    """Return whether a word is a number in decimal digits without leading zeros."""
    return word.isascii() and word.isdigit() and (word == "0" or not word.startswith("0"))


def number_of(word):
    """Return the number that a word is, or another one that is too great for all limits if it has too many digits."""
    # Python refuses to read numbers of some thousand digits, and no limit has as many digits as are read here.
    return int(word[:MOST_DIGITS])


def numbers_of(line, at, first, count):
    """Return the numbers of the line `at`, which has a first word and so many numbers."""
    words = line.split(" ")
    for place, word in enumerate(words):
        right = word == first if place == 0 else is_number(word)
        if place > count or not right:
            raise InvalidText(at, place)
    if len(words) <= count:
        raise InvalidText(at, len(words))
    return tuple([number_of(word) for word in words[1:]])


def parse_row(text):
    """Return the row with a text."""
    lines = lines_of(text)
    step, phase = numbers_of(lines[0], 0, "row", 2)
    breakers = [numbers_of(line, at, "breaker", 3) for at, line in enumerate(lines) if at > 0]
    return Row(breakers, step, phase=phase)


def parse_outages(text):
    """Return the list of outages with a text."""
    lines = lines_of(text)
    # The empty string has no line here.
    if lines == [""]:
        return []
    outages = [numbers_of(line, at, "outage", 2) for at, line in enumerate(lines)]
    check_outages(outages)
    return outages


def row_or_none(text):
    """Return the row with a text, None if a value is no text of a row."""
    try:
        return parse_row(text)
    except (InvalidText, InvalidRow):
        return None


def same_text(one, other):
    """Return whether two values are texts of equal rows."""
    row = row_or_none(one)
    return row is not None and row == row_or_none(other)
