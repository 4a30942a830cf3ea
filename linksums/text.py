"""Pairs as texts of two lines."""

from linksums.checks import check_down, check_pair, check_up
from linksums.errors import InvalidPair, InvalidText


def format_pair(pair):
    """Return the text of a pair."""
    check_pair(pair)
    return "\n".join([" ".join([str(link) for link in table]) for table in pair])


def parse_pair(text):
    """Return the pair that a text writes."""
    if not isinstance(text, str) or text.count("\n") != 1:
        raise InvalidText(None)
    lines = text.split("\n")
    down = _table(lines[0], 0, check_down)
    up = _table(lines[1], 1, check_up)
    if len(up) != len(down):
        raise InvalidText(1)
    return (down, up)


def _table(line, number, check):
    """Return the table that a line writes; the number is that of the line."""
    words = line.split(" ")
    if not all([_is_link(word) for word in words]):
        raise InvalidText(number)
    table = [int(word) for word in words]
    try:
        check(table)
    except InvalidPair:
        raise InvalidText(number) from None
    return table


def _is_link(word):
    """Tell whether a word is a number from 0 on, written without leading zeros."""
    return word.isascii() and word.isdigit() and (word == "0" or not word.startswith("0"))
