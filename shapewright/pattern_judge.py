"""Right derivations of patterns, and what all right derivations have in common."""

from shapewright.context import constructor_scheme, lookup
from shapewright.schemes import instantiate
from shapewright.terms import FREE, INT, UNIT, is_shape, variables
from shapewright.variants import elaborate

PATTERN_LENGTHS = {"pany": 2, "pvar": 2, "pint": 2, "punit": 2, "ptuple": 3, "pas": 3, "phas": 3}


def is_tuple(value, length):
    return isinstance(value, tuple) and len(value) == length


def is_free_shape(context, value):
    """Whether the value is a shape of the context all of whose variables are free."""
    return is_shape(value, context[1]) and all([number >= FREE for number in variables(value)])


def has_form(context, derivation, tag, length):
    """Whether a derivation has this kind and length and begins with a shape."""
    if not is_tuple(derivation, length) or derivation[0] != tag:
        return False
    return is_free_shape(context, derivation[1])


def is_instance(context, scheme, shapes, shape):
    """Whether the shape is the instance of the scheme with these shapes, which may be any value."""
    if not is_tuple(shapes, scheme[0]) or not all([is_free_shape(context, part) for part in shapes]):
        return False
    return instantiate(scheme, shapes) == shape


def pattern_bindings(context, pattern, derivation):
    tag = pattern[0]
    if tag == "pcon":
        return constructor_bindings(context, pattern, derivation)
    if not has_form(context, derivation, tag, PATTERN_LENGTHS[tag]):
        return None
    shape = derivation[1]
    if tag == "ptuple":
        return tuple_bindings(context, pattern[1], derivation)
    if tag == "pas":
        return joined_bindings(((pattern[1], shape),), same_bindings(context, pattern[2], derivation))
    if tag == "phas":
        wanted = elaborate(context, (), pattern[2])
        return same_bindings(context, pattern[1], derivation) if shape == wanted else None
    if (tag == "pint" and shape != INT) or (tag == "punit" and shape != UNIT):
        return None
    return ((pattern[1], shape),) if tag == "pvar" else ()


def joined_bindings(first, second):
    return None if second is None else first + second


def same_bindings(context, pattern, derivation):
    """The bindings of the inner derivation, which has the shape of the outer one."""
    bindings = pattern_bindings(context, pattern, derivation[2])
    return bindings if bindings is not None and derivation[2][1] == derivation[1] else None


def constructor_bindings(context, pattern, derivation):
    _, path, argument = pattern
    length = 3 if argument is None else 4
    entry = lookup(context[0], "con", path)
    if entry is None or not has_form(context, derivation, "pcon", length):
        return None
    if (argument_of(entry) is None) != (argument is None):
        return None
    scheme = constructor_scheme(entry)
    shape, shapes = derivation[1], derivation[2]
    if argument is None:
        return () if is_instance(context, scheme, shapes, shape) else None
    bindings = pattern_bindings(context, argument, derivation[3])
    if bindings is None or not is_instance(context, scheme, shapes, ("f", derivation[3][1], shape)):
        return None
    return bindings


def argument_of(entry):
    """The argument of the entry of a constructor or an exception, or None."""
    return entry[2] if entry[0] == "exn" else entry[3]


def tuple_bindings(context, patterns, derivation):
    _, shape, parts = derivation
    if not is_tuple(parts, len(patterns)):
        return None
    bindings = ()
    for pattern, part in zip(patterns, parts):
        bindings = joined_bindings(bindings, pattern_bindings(context, pattern, part))
        if bindings is None:
            return None
    return bindings if shape == ("t", tuple([part[1] for part in parts])) else None
