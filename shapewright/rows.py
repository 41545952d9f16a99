"""Trying the rows of a match or a handler on a value."""

from shapewright.matrix import bindings_by


def value_of(environment, name):
    """The value of the first binding of a name, or None if there is none."""
    while environment is not None:
        if environment[0] == name:
            return environment[1]
        environment = environment[2]
    return None


def bound(environment, bindings):
    """The environment extended by bindings, in their order."""
    for name, value in bindings:
        environment = (name, value, environment)
    return environment


def field_of(value, label):
    """The value of a field, or None if the value is no record or has no such field."""
    if value[0] != "record":
        return None
    for known, part in value[1]:
        if known == label:
            return part
    return None


def named_exception(expression, environment):
    """The exception that a packet pattern names, or the word of what is wrong with its expression."""
    labels = []
    while expression[0] == "field":
        labels.append(expression[1])
        expression = expression[2]
    value = value_of(environment, expression[1])
    if value is None:
        return "variable"
    for label in labels[::-1]:
        value = field_of(value, label)
        if value is None:
            return "match"
    return value if value[0] == "exn" else "match"


def fitting(pattern, value, environment):
    """The bindings of a value that fits, None if it does not fit, or the word of the first conflict."""
    return bindings_by(pattern, value, lambda part, inner: pairs_inside(part, inner, environment))


def pairs_inside(pattern, value, environment):
    """The pairs of a pattern and a value that must fit for these two to fit; None or a word if they do not."""
    tag = pattern[0]
    if tag in ("any", "var"):
        return []
    if tag == "as":
        return [(pattern[2], value)]
    if tag == "packet":
        return packet_pairs(pattern, value, environment)
    if tag != value[0]:
        return "match"
    if tag == "int":
        return [] if pattern[1] == value[1] else None
    if tag == "tuple":
        return list(zip(pattern[1], value[1])) if len(pattern[1]) == len(value[1]) else "match"
    if pattern[2] != value[1]:
        return None
    return argument_pairs(pattern[3], value[3]) if pattern[1][pattern[2]][0] == value[2] else "match"


def packet_pairs(pattern, value, environment):
    exception = named_exception(pattern[1], environment)
    if isinstance(exception, str):
        return exception
    if value[0] != "packet":
        return "match"
    return argument_pairs(pattern[2], value[3]) if exception[1] == value[1] else None


def argument_pairs(pattern, value):
    if pattern is None or value is None:
        return [] if pattern is None and value is None else "match"
    return [(pattern, value)]


def first_row(rows, value, environment):
    """The expression of the first row that the value fits with its environment, None if there is no such row, or the
    word of the first conflict."""
    for pattern, expression in rows:
        found = fitting(pattern, value, environment)
        if isinstance(found, str):
            return found
        if found is not None:
            return expression, bound(environment, found)
    return None
