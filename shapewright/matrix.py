"""Which values fit a pattern, how patterns relate, rows that are missing and rows that are never chosen."""

from shapewright.search import refuting_pattern


def fits(pattern, value, numbers):
    """The bindings of a value that fits, otherwise None."""
    return bindings_by(pattern, value, lambda part, inner: pairs_inside(part, inner, numbers))


def bindings_by(pattern, value, inside):
    """The bindings of a value that fits, where `inside` gives the list of the pairs of a pattern and a value that must
    fit for two others to fit. If it gives something else for a pair, this is the result."""
    found = []
    waiting = [(pattern, value)]
    while waiting:
        part, inner = waiting.pop()
        if part[0] in ("var", "as"):
            found.append((part[1], inner))
        pairs = inside(part, inner)
        if not isinstance(pairs, list):
            return pairs
        waiting.extend(pairs[::-1])
    return found


def pairs_inside(pattern, value, numbers):
    """The pairs of a pattern and a value that must fit for these two to fit, or None if they do not."""
    tag = pattern[0]
    if tag in ("any", "var"):
        return []
    if tag == "as":
        return [(pattern[2], value)]
    if tag != value[0]:
        return None
    if tag == "int":
        return [] if pattern[1] == value[1] else None
    if tag == "tuple":
        return list(zip(pattern[1], value[1])) if len(pattern[1]) == len(value[1]) else None
    if tag == "con":
        return argument_pair(pattern[3], value[3]) if pattern[2] == value[1] else None
    return argument_pair(pattern[2], value[3]) if names_exception(pattern[1], value[1], numbers) else None


def argument_pair(pattern, value):
    if pattern is None or value is None:
        return [] if pattern is None and value is None else None
    return [(pattern, value)]


def names_exception(expression, number, numbers):
    """Whether the expression of a packet pattern stands for the exception with this number."""
    for known, known_number in numbers:
        if known == expression:
            return known_number == number
    return False


def said(pattern):
    """The pattern that an `as` is about."""
    while pattern[0] == "as":
        pattern = pattern[2]
    return pattern


def says_nothing(pattern):
    return pattern[0] in ("any", "var")


def incompatible(first, second):
    """Whether the patterns do not agree, or ask for different things at some place."""
    waiting = [(first, second)]
    while waiting:
        left, right = waiting.pop()
        left, right = said(left), said(right)
        if not says_nothing(left) and not says_nothing(right):
            pairs = pairs_of_same(left, right)
            if pairs is None:
                return True
            waiting.extend(pairs)
    return False


def below(first, second):
    """Whether the first pattern asks for everything for which the second one asks."""
    waiting = [(first, second)]
    while waiting:
        left, right = waiting.pop()
        left, right = said(left), said(right)
        if not says_nothing(right):
            pairs = None if says_nothing(left) else pairs_of_same(left, right)
            if pairs is None:
                return False
            waiting.extend(pairs)
    return True


def pairs_of_same(first, second):
    """The pairs of the parts of two patterns that ask for the same thing at their own place, otherwise None."""
    tag = first[0]
    if tag != second[0]:
        return None
    if tag == "tuple":
        return list(zip(first[1], second[1])) if len(first[1]) == len(second[1]) else None
    if tag == "int":
        return [] if first == second else None
    if first[1:-1] != second[1:-1]:
        return None
    return argument_pair(first[-1], second[-1])


def missing(rows):
    """A pattern that agrees with all rows and is incompatible with each of them, or None."""
    return refuting_pattern(rows, [])


def example(rows, k):
    """A pattern that is below row k and incompatible with each row before it, or None."""
    return refuting_pattern(rows[:k], [rows[k]])
