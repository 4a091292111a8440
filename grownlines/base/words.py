"""Which values are integers, letters and points, and how great integers are written."""

MAX_FIGURES = 400

LETTERS = "abcdefghijklmnopqrstuvwxyz"

# Ten to the power of MAX_FIGURES, as powers with small exponents.
_BOUND = (10 ** 50) ** 8


def is_integer(value):
    """Whether the value is an integer of at most 400 digits."""
    if isinstance(value, bool) or not isinstance(value, int):
        return False
    return -_BOUND < value < _BOUND


def is_count(value):
    """Whether the value is such an integer of at least 0."""
    return is_integer(value) and value >= 0


def is_letter(value):
    """Whether the value is one of the letters from a to z."""
    return isinstance(value, str) and len(value) == 1 and value in LETTERS


def is_point(value):
    """Whether the value is a pair of integers of at most 400 digits."""
    if not isinstance(value, tuple) or len(value) != 2:
        return False
    return is_integer(value[0]) and is_integer(value[1])


def write_integer(number):
    """The text of an integer of any size.

    Python's own `str` refuses integers of some thousands of digits, which
    powers of vectors have, so the digits are written in blocks.
    """
    sign = "-" if number < 0 else ""
    blocks = []
    rest = abs(number)
    while rest >= _BOUND:
        rest, block = divmod(rest, _BOUND)
        blocks.append(str(block).zfill(MAX_FIGURES))
    blocks.append(f"{sign}{rest}")
    return "".join(blocks[::-1])
