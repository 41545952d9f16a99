"""Integers and lists, as the trees of the program and the plain trees have them."""

LEAST_INTEGER = -2147483648
GREATEST_INTEGER = 2147483647


def is_number(value):
    """Whether the value is an integer from 0 on; a boolean is none."""
    return isinstance(value, int) and not isinstance(value, bool) and value >= 0


def is_integer(value):
    """Whether the value is an integer of the language; a boolean is none."""
    if isinstance(value, bool) or not isinstance(value, int):
        return False
    return LEAST_INTEGER <= value <= GREATEST_INTEGER


def is_list(value, low, high):
    """Whether the value is a tuple with so many elements."""
    return isinstance(value, tuple) and low <= len(value) <= high
