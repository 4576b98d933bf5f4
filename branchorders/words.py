"""Words: their signed values, their outcomes, and how their bits are changed."""

from branchorders.errors import InvalidWidth, InvalidWords


def check_width(width):
    """Raise InvalidWidth if a width is less than 1."""
    if width < 1:
        raise InvalidWidth(width)


def check_width_if_any(width):
    """Raise InvalidWidth if a width is less than 1; None stands for all widths."""
    if width is not None:
        check_width(width)


def check_words(width, words):
    """Raise InvalidWords for the first integer that is no word of a valid width."""
    for index, word in enumerate(words):
        if not is_word(width, word):
            raise InvalidWords(index)


def is_word(width, word):
    """Return whether an integer is a word of a valid width."""
    return 0 <= word < 1 << width


def sign_bit(width):
    """Return the least negative word of a valid width."""
    return 1 << (width - 1)


def outcome_by_cut(cut, first, second):
    """Return the outcome of two words, or of two ranks, of which those from the cut on are negative."""
    if first == second:
        return "E"
    mixed = (first < cut) != (second < cut)
    if first < second:
        return "GB" if mixed else "LB"
    return "LA" if mixed else "GA"


def signed(width, word):
    """Return the signed value of a word."""
    check_width(width)
    check_words(width, (word,))
    return _signed_value(width, word)


def outcome(width, first, second):
    """Return the outcome of two words."""
    check_width(width)
    check_words(width, (first, second))
    return outcome_by_cut(sign_bit(width), first, second)


def flipped(width, words):
    """Return the words with the sign bit of each one changed."""
    check_width(width)
    check_words(width, words)
    return _changed(words, sign_bit(width))


def inverted(width, words):
    """Return the words with all bits of each one changed."""
    check_width(width)
    check_words(width, words)
    return _changed(words, (1 << width) - 1)


def extended(width, words, wider, keep_sign):
    """Return the words of a wider width with the same signed values, or with the same integers."""
    check_width(width)
    check_words(width, words)
    if wider < width:
        raise InvalidWidth(wider)
    if not keep_sign:
        return tuple(words)
    added_bits = (1 << wider) - (1 << width)
    return tuple([word + added_bits if word >= sign_bit(width) else word for word in words])


def _signed_value(width, word):
    return word - (1 << width) if word >= sign_bit(width) else word


def _changed(words, bits):
    return tuple([word ^ bits for word in words])
