"""Numbers that are written as words."""


def read_number(word, least, most):
    """The integer from least to most that is written as this word, None if there is none."""
    for number in range(least, most + 1):
        # Comparing with the written number keeps signs, needless zeros and foreign digits out.
        if word == str(number):
            return number
    return None
