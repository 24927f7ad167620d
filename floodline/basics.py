"""Integers, positions, names, lists and pairs among values of any kind."""

from floodline.errors import InvalidNumber, InvalidPosition

FARTHEST = 10 ** 30
MOST_LETTERS = 8


def is_integer(value):
    """Return whether any value is an integer; True and False are none."""
    return isinstance(value, int) and not isinstance(value, bool)


def is_position(value):
    """Return whether any value is an integer that may be a position."""
    return is_integer(value) and -FARTHEST <= value <= FARTHEST


def is_name(value):
    """Return whether any value is a string that may name a host."""
    if not isinstance(value, str) or not 1 <= len(value) <= MOST_LETTERS:
        return False
    # Not islower: letters beyond a to z have to be refused, too.
    return all(["a" <= letter <= "z" for letter in value])


def is_list(value):
    """Return whether any value is a list."""
    # Not isinstance: exactly the kind that is named must be passed.
    return type(value) == list


def is_pair(value):
    """Return whether any value is a tuple of two items."""
    return type(value) == tuple and len(value) == 2


def check_position(position):
    """Raise InvalidPosition if any value is not a position."""
    if not is_position(position):
        raise InvalidPosition("not an integer from -10 ** 30 to 10 ** 30")


def check_number(number, least, most):
    """Raise InvalidNumber if any value is not an integer within two limits."""
    if not is_integer(number) or not least <= number <= most:
        raise InvalidNumber("not an integer within the limits")
