"""Numbers that are written as words."""


def read_number(word, least, most):
    """The integer from least to most that is written as this word, None if there is none."""
    for number in range(least, most + 1):
        # Comparing with the written number keeps signs, needless zeros and foreign digits out.
        if word == str(number):
            return number
    return None


def read_digits(word):
    """The integer of at least 0 that is written as this word, None if there is none."""
    if word == "" or [sign for sign in word if sign not in "0123456789"]:
        return None
    if word[0] == "0" and len(word) > 1:
        return None
    return int(word)
