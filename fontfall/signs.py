"""What a number is as a sign: a letter, a mark, or none."""

FIRST_MARK = 800
LAST_SIGN = 999


def is_sign(number):
    """Tell whether the number is a letter or a mark."""
    return 0 <= number <= LAST_SIGN


def is_letter(sign):
    """Tell of a sign whether it is a letter; the others are marks."""
    return sign < FIRST_MARK
