"""Contexts: what is known of the names that are in scope."""

from shapewright.schemes import generalized
from shapewright.terms import EXN, FREE, substitute, variables

SPACES = {"exn": "con"}


def extended(context, entries):
    """The context with further entries at its end."""
    return (*context[0], *entries), context[1]


def extended_by_bindings(context, bindings):
    """The context in which variables have the shapes of the bindings."""
    return extended(context, [("val", name, (0, shape)) for name, shape in bindings])


def space_of(entry):
    return SPACES.get(entry[0], entry[0])


def lookup(entries, space, path):
    """The entry to which a path leads, or None."""
    for name in path[:-1]:
        entry = last_entry(entries, "module", name)
        if entry is None:
            return None
        entries = entry[2]
    return last_entry(entries, space, path[-1])


def last_entry(entries, space, name):
    for entry in reversed(entries):
        if entry[1] == name and space_of(entry) == space:
            return entry
    return None


def constructor_scheme(entry):
    """The scheme of a constructor or an exception."""
    if entry[0] == "exn":
        count, argument, result = 0, entry[2], EXN
    else:
        count, argument, result = entry[2], entry[3], entry[4]
    shape = result if argument is None else ("f", argument, result)
    return generalized(shape, [number for number in variables(shape) if number < count])


def free_variables(entries):
    """The numbers of the free variables of all entries in the order of their first occurrence."""
    found = {}
    note_free_variables(entries, found)
    return tuple(found)


def note_free_variables(entries, found):
    for entry in entries:
        if entry[0] == "module":
            note_free_variables(entry[2], found)
        elif entry[0] == "functor":
            note_free_variables(entry[4], found)
        else:
            for shape in shapes_of(entry):
                for number in variables(shape):
                    if number >= FREE:
                        found[number] = True


def shapes_of(entry):
    """The shapes that stand in an entry in which no other entries stand."""
    tag = entry[0]
    if tag == "val":
        return [entry[2][1]]
    if tag == "con":
        return [shape for shape in entry[3:5] if shape is not None]
    if tag == "exn":
        return [] if entry[2] is None else [entry[2]]
    return [] if tag == "signature" else [entry[-1]]


def settle(entries, mapping):
    """The entries with the substitution applied to their free variables."""
    free = {number: mapping[number] for number in mapping if number >= FREE}
    return tuple([settled_entry(entry, free) for entry in entries])


def settled_entry(entry, mapping):
    tag = entry[0]
    if tag == "signature":
        return entry
    if tag in ("module", "functor"):
        return (*entry[:-1], settle(entry[-1], mapping))
    if tag == "val":
        count, shape = entry[2]
        return ("val", entry[1], (count, substitute(shape, mapping)))
    if tag == "con":
        return (*entry[:3], settled(entry[3], mapping), settled(entry[4], mapping), *entry[5:])
    return (*entry[:-1], settled(entry[-1], mapping))


def settled(shape, mapping):
    return None if shape is None else substitute(shape, mapping)
