"""What kind of value a value is."""


def is_within(value, least, most):
    """Tell whether any value is an integer from least to most."""
    # A bool is an int for Python, but no integer here.
    if isinstance(value, bool) or not isinstance(value, int):
        return False
    return least <= value <= most
