"""Levels: the entries of modules and signatures, and realizations of their stamps."""

from shapewright.context import space_of
from shapewright.errors import TooLarge
from shapewright.schemes import generalized
from shapewright.terms import MAX_DEPTH, MAX_SIZE, parts_of_shape, variables, with_parts

SPACE_ORDER = ("val", "shape", "con", "module", "functor")


def tidy(entries):
    """The last entry of each space and name, in the order of a level."""
    last = {}
    for entry in entries:
        if space_of(entry) in SPACE_ORDER:
            last[space_of(entry), entry[1]] = entry
    return tuple(sorted(list(last.values()), key=level_place))


def level_place(entry):
    """Where an entry stands in a level: constructors stand by stamp and index, before the exceptions."""
    stamp, index = -1, -1
    if entry[0] == "con":
        stamp, index = entry[4][1], entry[5]
    return SPACE_ORDER.index(space_of(entry)), entry[0] == "exn", stamp, index, entry[1]


def stamps_of(entries):
    """The stamps that occur in the entries, ascending; those that an entry binds itself do not count."""
    found = {}
    for entry in entries:
        for stamp in stamps_of_entry(entry):
            found[stamp] = True
    return tuple(sorted(found))


def stamps_of_entry(entry):
    tag = entry[0]
    if tag == "module":
        return stamps_of(entry[2])
    if tag == "functor":
        bound, level = entry[2]
        return without((*stamps_of(level), *stamps_of(entry[4])), (*bound, *entry[3]))
    if tag == "signature":
        return without(stamps_of(entry[2][1]), entry[2][0])
    found = []
    for shape in shapes_in(entry):
        found.extend(stamps_in(shape))
    return found


def without(stamps, barred):
    return [stamp for stamp in stamps if stamp not in barred]


def shapes_in(entry):
    """The shapes that stand directly in an entry."""
    if entry[0] == "val":
        return [entry[2][1]]
    shapes = entry[3:5] if entry[0] == "con" else entry[-1:]
    return [shape for shape in shapes if shape is not None]


def stamps_in(shape):
    found = [shape[1]] if shape[0] == "c" else []
    for part in parts_of_shape(shape):
        found.extend(stamps_in(part))
    return found


def realize(entries, realization):
    """The entries with the shape functions of a realization in place of its stamps."""
    return tuple([realized_entry(entry, realization) for entry in entries])


def realized_entry(entry, realization):
    tag = entry[0]
    if tag == "module":
        return ("module", entry[1], realize(entry[2], realization))
    if tag == "functor":
        _, name, (bound, level), made, result = entry
        return ("functor", name, (bound, realize(level, realization)), made, realize(result, realization))
    if tag == "signature":
        bound, level = entry[2]
        return ("signature", entry[1], (bound, realize(level, realization)))
    if tag == "val":
        count, shape = entry[2]
        shape = realized(shape, realization)
        return ("val", entry[1], generalized(shape, [number for number in variables(shape) if number < count]))
    if tag == "con":
        argument, result = realized(entry[3], realization), realized(entry[4], realization)
        return (*entry[:3], argument, result, *entry[5:])
    return (*entry[:-1], realized(entry[-1], realization))


def realized(shape, realization):
    """A shape, or None, after the realization; only the result is held against the bounds."""
    if shape is None:
        return None
    result, count, deepest = realized_part(shape, realization)
    if count > MAX_SIZE or deepest > MAX_DEPTH:
        raise TooLarge("a shape after a realization is too large")
    return result


def realized_part(shape, realization):
    """A shape after the realization, with its size and its depth. A shape that is used more than once is shared,
    so that it costs little to make one that is far too large, of which the result may keep nothing."""
    parts = []
    for part in parts_of_shape(shape):
        parts.append(realized_part(part, realization))
    if shape[0] == "c" and shape[1] in realization:
        return filled(realization[shape[1]][1], parts)
    return joined(shape, parts)


def joined(shape, parts):
    count = 1 + sum(part[1] for part in parts)
    deepest = 1 + max([part[2] for part in parts], default=0)
    return with_parts(shape, [part[0] for part in parts]), count, deepest


def filled(shape, arguments):
    """The shape of a shape function with arguments in place of its parameters, with its size and its depth."""
    if shape[0] == "v" and shape[1] < len(arguments):
        return arguments[shape[1]]
    parts = []
    for part in parts_of_shape(shape):
        parts.append(filled(part, arguments))
    return joined(shape, parts)
