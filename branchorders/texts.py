"""Texts: programs and words as they are written."""


def show_program(program):
    """Return the text of a program."""
    return "; ".join([f"inputs {program.inputs}"] + [_show_items(row) for row in program.rows])


def show_words(words):
    """Return the text of some words."""
    return _show_items(words) if words else "none"


def _show_items(items):
    return " ".join([str(item) for item in items])
