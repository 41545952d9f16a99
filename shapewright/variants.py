"""Elaboration: surface shapes become shapes, and declarations of shapes become entries."""

from shapewright.context import extended, last_entry, lookup
from shapewright.errors import DuplicateName, UnknownName, WrongArity
from shapewright.schemes import generalized
from shapewright.terms import FREE, substitute, variables, within_bounds


def elaborate(context, names, surface):
    """The shape that a surface shape with these parameter names stands for."""
    tag = surface[0]
    if tag == "svar":
        return variable_shape(context, names, surface)
    if tag == "sname":
        return named_shape(context, names, surface)
    if tag == "sarrow":
        first = elaborate(context, names, surface[1])
        return within_bounds(("f", first, elaborate(context, names, surface[2])))
    return within_bounds(("t", elaborate_all(context, names, surface[1])))


def elaborate_all(context, names, surfaces):
    return tuple([elaborate(context, names, surface) for surface in surfaces])


def variable_shape(context, names, surface):
    if surface[1] in names:
        return ("v", names.index(surface[1]))
    entry = last_entry(context[0], "name", surface[1])
    if entry is None:
        raise UnknownName(surface)
    return entry[2]


def named_shape(context, names, surface):
    _, path, arguments = surface
    entry = lookup(context[0], "shape", path)
    if entry is None:
        raise UnknownName(path)
    if entry[2] != len(arguments):
        raise WrongArity(path)
    shapes = elaborate_all(context, names, arguments)
    return substitute(entry[3], {index: shape for index, shape in enumerate(shapes)})


def elaborate_scheme(context, scheme):
    """The scheme that a surface scheme stands for; parameters that do not occur are left out."""
    names, surface = scheme
    check_different(names)
    shape = elaborate(context, names, surface)
    return generalized(shape, [number for number in variables(shape) if number < FREE])


def check_different(names):
    """Raises DuplicateName for the first name that is equal to an earlier one."""
    seen = {}
    for name in names:
        if name in seen:
            raise DuplicateName(name)
        seen[name] = True


def declare(context, declaration):
    """The entries of an alias, variant or exception declaration, and the arities after it."""
    tag = declaration[0]
    if tag == "alias":
        _, names, name, surface = declaration
        check_different(names)
        shape = elaborate(without_names(context), names, surface)
        return (("shape", name, len(names), shape),), context[1]
    if tag == "variant":
        return declare_variant(without_names(context), declaration[1])
    _, name, surface = declaration
    return (("exn", name, argument_shape(context, (), surface)),), context[1]


def without_names(context):
    """The context without the shape variables of the program text."""
    return tuple([entry for entry in context[0] if entry[0] != "name"]), context[1]


def argument_shape(context, names, surface):
    return None if surface is None else elaborate(context, names, surface)


def declare_variant(context, group):
    check_group(group)
    entries, arities = context
    shapes = []
    for offset, (names, name, _) in enumerate(group):
        result = applied_stamp(len(arities) + offset, len(names))
        shapes.append(("shape", name, len(names), result))
    arities = (*arities, *[len(names) for names, _, _ in group])
    inner = extended((entries, arities), shapes)
    constructors = []
    for element, shape_entry in zip(group, shapes):
        constructors.extend(constructor_entries(inner, element, shape_entry[3]))
    return (*shapes, *constructors), arities


def check_group(group):
    """Raises DuplicateName for the first name of a group that may not occur again."""
    check_different([name for _, name, _ in group])
    for names, _, _ in group:
        check_different(names)
    check_different([name for _, _, constructors in group for name, _ in constructors])


def applied_stamp(stamp, count):
    """A stamp applied to the parameters 0 to count - 1."""
    return ("c", stamp, tuple([("v", number) for number in range(count)]))


def constructor_entries(context, element, result):
    names, _, constructors = element
    family = tuple([(name, surface is not None) for name, surface in constructors])
    found = []
    for index, (name, surface) in enumerate(constructors):
        argument = argument_shape(context, names, surface)
        found.append(("con", name, len(names), argument, result, index, family))
    return found
