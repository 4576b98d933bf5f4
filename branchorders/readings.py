"""Readings: programs and words from their texts."""

from branchorders.errors import InvalidProgram, Unreadable
from branchorders.programs import Program

MOST_DIGITS = 400


def read_program(text):
    """Return the program that has a text."""
    head, *rows = [_read_items(part) for part in text.split("; ")]
    if len(head) != 2 or head[0] != "inputs" or type(head[1]) is not int:
        raise Unreadable(text)
    try:
        return Program(head[1], rows)
    except InvalidProgram:
        raise Unreadable(text) from None


def read_words(text):
    """Return the tuple of integers that has a text."""
    if text == "none":
        return ()
    words = _read_items(text)
    if any([type(word) is not int for word in words]):
        raise Unreadable(text)
    return words


def _read_items(text):
    """Return the items of a text as a tuple, those that are numbers as integers and all others as strings."""
    return tuple([int(item) if _is_number(item) else item for item in text.split(" ")])


def _is_number(text):
    if not (text.isascii() and text.isdigit()) or len(text) > MOST_DIGITS:
        return False
    return text == "0" or text[0] != "0"
