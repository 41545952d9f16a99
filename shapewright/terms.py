"""Shapes: what the language knows of a value before the program runs."""

from shapewright.errors import TooLarge
from shapewright.integers import is_list, is_number

FREE = 1000000
MAX_SIZE = 2000
MAX_DEPTH = 100
ARITIES = (0, 0, 0, 1, 0, 1, 1, 0)

INT = ("c", 0, ())
UNIT = ("c", 1, ())
EXN = ("c", 2, ())
BOOL = ("c", 4, ())


def is_shape(value, arities):
    """Whether the value is a shape with these stamps, within the bounds."""
    count = 0
    waiting = [(value, 1)]
    while waiting:
        part, level = waiting.pop()
        count += 1
        if count > MAX_SIZE or level > MAX_DEPTH or not is_node(part, arities):
            return False
        for inner in parts_of_shape(part):
            waiting.append((inner, level + 1))
    return True


def is_node(value, arities):
    """Whether the value has the form of a shape, whatever its parts are."""
    if not isinstance(value, tuple) or len(value) < 2:
        return False
    if value[0] == "v":
        return len(value) == 2 and is_number(value[1])
    if value[0] == "f":
        return len(value) == 3
    if value[0] == "t":
        return len(value) == 2 and is_list(value[1], 2, 6)
    if value[0] != "c" or len(value) != 3 or not is_number(value[1]) or value[1] >= len(arities):
        return False
    return isinstance(value[2], tuple) and len(value[2]) == arities[value[1]]


def parts_of_shape(shape):
    """The shapes that stand directly in a shape, from the left."""
    if shape[0] == "v":
        return ()
    if shape[0] == "f":
        return shape[1:]
    return shape[-1]


def with_parts(shape, parts):
    """The shape with other parts at the places of its own."""
    if shape[0] == "v":
        return shape
    if shape[0] == "f":
        return ("f", parts[0], parts[1])
    return (*shape[:-1], tuple(parts))


def measures(shape):
    """The size and the depth of a shape."""
    count = 0
    deepest = 0
    waiting = [(shape, 1)]
    while waiting:
        part, level = waiting.pop()
        count += 1
        deepest = max(deepest, level)
        for inner in parts_of_shape(part):
            waiting.append((inner, level + 1))
    return count, deepest


def size(shape):
    return measures(shape)[0]


def depth(shape):
    return measures(shape)[1]


def within_bounds(shape):
    """Returns the shape itself; raises TooLarge if it is too large or too deep."""
    count, deepest = measures(shape)
    if count > MAX_SIZE or deepest > MAX_DEPTH:
        raise TooLarge("a shape is too large")
    return shape


def variables(shape):
    """The numbers of the variables in the order of their first occurrence from the left."""
    found = {}
    waiting = [shape]
    while waiting:
        part = waiting.pop()
        if part[0] == "v":
            found[part[1]] = True
        waiting.extend(parts_of_shape(part)[::-1])
    return tuple(found)


def substitute(shape, mapping):
    """The shape with the variables of the mapping replaced, all at once."""
    check_result(shape, mapping)
    return replaced(shape, mapping)


def check_result(shape, mapping):
    """Raises TooLarge if the substitution would make the shape too large; the result is not built for that."""
    known = {}
    count = 0
    waiting = [(shape, 1)]
    while waiting:
        part, level = waiting.pop()
        count += 1
        deepest = level
        if part[0] == "v" and part[1] in mapping:
            number = part[1]
            if number not in known:
                known[number] = measures(mapping[number])
            count += known[number][0] - 1
            deepest += known[number][1] - 1
        if count > MAX_SIZE or deepest > MAX_DEPTH:
            raise TooLarge("a shape would become too large")
        for inner in parts_of_shape(part):
            waiting.append((inner, level + 1))


def replaced(shape, mapping):
    if shape[0] == "v":
        return mapping.get(shape[1], shape)
    parts = []
    for part in parts_of_shape(shape):
        parts.append(replaced(part, mapping))
    return with_parts(shape, parts)
