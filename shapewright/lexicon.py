"""The characters, words and names of the language."""

from shapewright.integers import is_integer, is_list

SMALL_LETTERS = "abcdefghijklmnopqrstuvwxyz"
CAPITAL_LETTERS = "ABCDEFGHIJKLMNOPQRSTUVWXYZ"
DIGITS = "0123456789"
NAME_CHARACTERS = "abcdefghijklmnopqrstuvwxyzABCDEFGHIJKLMNOPQRSTUVWXYZ0123456789_"

MAX_NAME = 16
MAX_PATH = 6
MAX_PARAMETERS = 4

WORDS = (
    "alias", "all", "and", "andalso", "as", "case", "div", "else", "end", "exception", "fn", "functor",
    "handle", "if", "in", "include", "let", "mod", "module", "of", "open", "orelse", "raise", "rec",
    "shape", "sig", "signature", "struct", "then", "val", "variant", "where",
)

# The operators that stand between two operands in a text.
INFIX = ("*", "div", "mod", "+", "-", "@", "=", "<>", "<", "<=", ">", ">=", ":=")
OPERATORS = ("*", "div", "mod", "+", "-", "@", "=", "<>", "<", "<=", ">", ">=", ":=", "~", "!")


def is_name(value, first_letters):
    """Whether the value is an identifier that begins with one of these letters."""
    if not isinstance(value, str) or not 1 <= len(value) <= MAX_NAME or value in WORDS:
        return False
    return value[0] in first_letters and all(character in NAME_CHARACTERS for character in value)


def is_small(value):
    return is_name(value, SMALL_LETTERS)


def is_capital(value):
    return is_name(value, CAPITAL_LETTERS)


def is_value_name(value):
    return is_small(value) or (isinstance(value, str) and value in OPERATORS)


def is_names(value):
    """Whether the value is a list of parameter names."""
    return is_list(value, 0, MAX_PARAMETERS) and all(is_small(name) for name in value)


def begins_path(value):
    """Whether the value is a tuple as long as a path whose names but the last one are those of modules."""
    return is_list(value, 1, MAX_PATH) and all(is_capital(name) for name in value[:-1])


def is_small_path(value):
    return begins_path(value) and is_small(value[-1])


def is_capital_path(value):
    return begins_path(value) and is_capital(value[-1])


def is_value_path(value):
    return begins_path(value) and is_value_name(value[-1])


# What the parts of a tree that are no trees can be.
LEAVES = {
    "small": is_small,
    "capital": is_capital,
    "value name": is_value_name,
    "integer": is_integer,
    "small path": is_small_path,
    "capital path": is_capital_path,
    "value path": is_value_path,
    "names": is_names,
}
