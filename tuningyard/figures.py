"""Whole numbers and fractions: as texts hold them, and in lowest terms."""


def is_counting(text, most):
    """Whether a text is a whole number from 1 on, of at most so many figures and without noughts ahead."""
    if not 1 <= len(text) <= most or text[0] == "0":
        return False
    # Not isdigit, which takes figures of other scripts too.
    return all([figure in "0123456789" for figure in text])


def is_signed(text, most):
    """Whether a text is `0`, or a whole number as in is_counting, perhaps with one `-` ahead."""
    if text == "0":
        return True
    return is_counting(text[1:] if text.startswith("-") else text, most)


def parts_read(text, most):
    """The pair (top, bottom) of a text `TOP/BOTTOM`, both as in is_counting, or None where it is none."""
    parts = text.split("/")
    if len(parts) != 2 or not all([is_counting(part, most) for part in parts]):
        return None
    return (int(parts[0]), int(parts[1]))


def divisor_of(numbers):
    """The greatest whole number that divides all the numbers, 0 where all are 0."""
    found = 0
    for number in numbers:
        other = abs(number)
        while other != 0:
            left = found % other
            found = other
            other = left
    return found


def lowest(top, bottom):
    """The fraction of two whole numbers in lowest terms, as a pair."""
    divisor = divisor_of((top, bottom))
    return (top // divisor, bottom // divisor)
