"""Schemes: shapes with general variables."""

from shapewright.terms import parts_of_shape, substitute, variables


def close(shape, fixed):
    """The scheme in which the variables of the shape that are not fixed are general."""
    kept = {number: True for number in fixed}
    return generalized(shape, [number for number in variables(shape) if number not in kept])


def generalized(shape, numbers):
    """The scheme in which the variables with these numbers are general; they stand in the order of the shape."""
    mapping = {number: ("v", index) for index, number in enumerate(numbers)}
    return len(numbers), substitute(shape, mapping)


def instantiate(scheme, shapes):
    """The instance of a scheme with these shapes for its general variables."""
    return substitute(scheme[1], {index: shape for index, shape in enumerate(shapes)})


def match_instance(scheme, shape):
    """The shapes with which the shape is an instance of the scheme, or None."""
    count, pattern = scheme
    found = {}
    if not matches(pattern, shape, count, found):
        return None
    return tuple([found[index] for index in range(count)])


def matches(pattern, shape, count, found):
    """Whether the shape is an instance of the pattern; what the general variables stand for is put into `found`."""
    if pattern[0] == "v" and pattern[1] < count:
        return found.setdefault(pattern[1], shape) == shape
    if not same_head(pattern, shape):
        return False
    for inner, part in zip(parts_of_shape(pattern), parts_of_shape(shape)):
        if not matches(inner, part, count, found):
            return False
    return True


def same_head(first, second):
    """Whether two shapes differ at most in their parts."""
    if first[0] != second[0] or len(parts_of_shape(first)) != len(parts_of_shape(second)):
        return False
    return first[0] in ("t", "f") or first[1] == second[1]


def at_least_as_general(scheme, other):
    """Whether each instance of the other scheme is an instance of the scheme."""
    count, shape = other
    first = 1 + max(greatest_stamp(scheme[1]), greatest_stamp(shape))
    # Stamps that occur nowhere stand for the other scheme's general variables: nothing is known of them.
    constants = [("c", first + index, ()) for index in range(count)]
    return match_instance(scheme, instantiate(other, constants)) is not None


def greatest_stamp(shape):
    """The greatest stamp of a shape, -1 if it has none."""
    greatest = shape[1] if shape[0] == "c" else -1
    for part in parts_of_shape(shape):
        greatest = max(greatest, greatest_stamp(part))
    return greatest
