"""What kind of value a value is."""

LETTERS = "abcdefghijklmnopqrstuvwxyz"
DIGITS = "0123456789"


def is_whole_number(value):
    """Tell whether any value is an integer."""
    # A bool is an int for Python, but no integer here.
    return isinstance(value, int) and not isinstance(value, bool)


def is_within(value, least, most):
    """Tell whether any value is an integer from least to most."""
    return is_whole_number(value) and least <= value <= most


def is_number_in(value, table):
    """Tell whether any value is an integer that is a key of this dict."""
    # A list cannot be looked up in a dict, and True would be found there as 1.
    return is_whole_number(value) and value in table


def _is_made_of(value, letters):
    """Tell whether any value is a string of 1 to 8 of these letters."""
    if not isinstance(value, str) or not 1 <= len(value) <= 8:
        return False
    return all([letter in letters for letter in value])


def is_name(value):
    """Tell whether any value can be the name of a copy."""
    return _is_made_of(value, LETTERS)


def is_word(value):
    """Tell whether any value can be a mark, a weak mark or the name of a piece."""
    return _is_made_of(value, LETTERS + DIGITS)


def is_tuple_of(value, many):
    """Tell whether any value is a tuple with so many items."""
    return isinstance(value, tuple) and len(value) == many
