"""Integers: what counts as one, and their decimal digits."""

DIGITS = "0123456789"
CHUNK_DIGITS = 512
CHUNK = (10 ** 64) ** 8


def is_integer(value):
    """Tell whether any value is an integer; True and False are none."""
    return isinstance(value, int) and not isinstance(value, bool)


def are_integers(value, width, low):
    """Tell whether any value is a tuple of so many integers from `low` on."""
    if not isinstance(value, tuple) or len(value) != width:
        return False
    return all(is_integer(entry) and entry >= low for entry in value)


def are_fractions(value, width):
    """Tell whether any value is a pair of so many integers from 0 on and their denominator, from 1 on."""
    if not isinstance(value, tuple) or len(value) != 2:
        return False
    numbers, over = value
    return are_integers(numbers, width, 0) and is_integer(over) and over >= 1


def print_number(number):
    """Return the decimal digits of an integer of any size, from 0 on."""
    # Python refuses to convert integers of several thousand digits at once.
    chunks = []
    while number >= CHUNK:
        number, low = divmod(number, CHUNK)
        chunks.append(str(low).zfill(CHUNK_DIGITS))
    chunks.append(str(number))
    return "".join(reversed(chunks))


def read_number(word, most):
    """Return the number of a word of digits, or None if it is none or above `most`."""
    # The length is looked at first, because int() refuses very long words.
    if word == "" or len(word) > len(str(most)):
        return None
    if any(sign not in DIGITS for sign in word):
        return None
    if word[0] == "0" and word != "0":
        return None
    number = int(word)
    return number if number <= most else None
