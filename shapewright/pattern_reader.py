"""Reading names and patterns."""

from shapewright.errors import BadText
from shapewright.lexicon import OPERATORS
from shapewright.shape_reader import take_capital_path, take_shape

ARGUMENT_SIGNS = ("_", "SMALL", "NUMBER", "CAPITAL", "(")


def at_name(cursor):
    """Whether a value name comes next: a small identifier or an operator in parentheses."""
    return cursor.sign() == "SMALL" or (cursor.sign() == "(" and cursor.second_sign() in OPERATORS)


def take_name(cursor):
    if not cursor.passes("("):
        return cursor.expect("SMALL")
    if cursor.sign() not in OPERATORS:
        raise BadText(cursor.position())
    name = cursor.take()
    cursor.expect(")")
    return name


def take_pattern(cursor):
    if not at_name(cursor):
        return take_rest_of_pattern(cursor, take_operand(cursor))
    name = take_name(cursor)
    if cursor.passes("as"):
        return ("pas", name, take_pattern(cursor))
    return take_rest_of_pattern(cursor, ("pvar", name))


def take_rest_of_pattern(cursor, first):
    """What follows the first operand of a pattern."""
    parts = [first]
    while cursor.passes("::"):
        parts.append(take_operand(cursor))
    pattern = parts.pop()
    while parts:
        pattern = ("pcon", ("Cons",), ("ptuple", (parts.pop(), pattern)))
    while cursor.passes(":"):
        pattern = ("phas", pattern, take_shape(cursor))
    return pattern


def take_operand(cursor):
    """An operand of `::`, where a constructor may have an argument without parentheses around both."""
    if cursor.sign() != "CAPITAL":
        return take_argument(cursor)
    path = take_capital_path(cursor)
    if cursor.sign() in ARGUMENT_SIGNS:
        return ("pcon", path, take_argument(cursor))
    return ("pcon", path, None)


def take_argument(cursor):
    sign = cursor.sign()
    if at_name(cursor):
        return ("pvar", take_name(cursor))
    if sign == "_":
        cursor.take()
        return ("pany",)
    if sign == "NUMBER":
        return ("pint", cursor.take())
    if sign == "CAPITAL":
        return ("pcon", take_capital_path(cursor), None)
    return take_pattern_in_parentheses(cursor)


def take_pattern_in_parentheses(cursor):
    cursor.expect("(")
    if cursor.passes(")"):
        return ("punit",)
    patterns = [take_pattern(cursor)]
    while cursor.passes(","):
        patterns.append(take_pattern(cursor))
    cursor.expect(")")
    return patterns[0] if len(patterns) == 1 else ("ptuple", tuple(patterns))
