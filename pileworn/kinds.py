"""Of which kind a value is, for values that may be anything."""


def is_integer(value):
    """Whether the value is an integer."""
    # Python takes True and False for integers; the document does not.
    return isinstance(value, int) and not isinstance(value, bool)


def integer_within(value, least, most):
    """Whether the value is an integer, and from least to most."""
    return is_integer(value) and least <= value <= most
