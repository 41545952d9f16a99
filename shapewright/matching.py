"""Matching: whether a level has everything that an abstract signature asks for."""

from shapewright.context import last_entry, lookup, settle, space_of
from shapewright.errors import BadModule, NotUnifiable, ShapewrightError
from shapewright.levels import realize, shapes_in, stamps_in
from shapewright.schemes import greatest_stamp, instantiate
from shapewright.sigs import home, is_concrete
from shapewright.terms import FREE, parts_of_shape, substitute, variables
from shapewright.unify import unify
from shapewright.variants import applied_stamp


def match_level(context, have, want):
    """The realization, what is settled of the weak variables of the level, and what is kept of it at run time."""
    bound, level = want
    realization = {}
    for stamp in bound:
        realization[stamp] = found_shape(have, level, stamp)
    wanted = realize(level, realization)
    settled = {}
    compare_levels(have, wanted, (), settled, len(context[1]))
    return realization, settled, thin_of(wanted)


def found_shape(have, level, stamp):
    """The shape function that a level gives to a bound stamp of the wanted level."""
    path = home(level, stamp)
    entry = None if path is None else lookup(have, "shape", path)
    if entry is None:
        raise BadModule("missing", () if path is None else path)
    if entry[2] != lookup(level, "shape", path)[2]:
        raise BadModule("arity", path)
    if is_concrete(level, stamp) and not is_applied_stamp(entry[2], entry[3]):
        raise BadModule("variant", path)
    return entry[2:]


def is_applied_stamp(count, shape):
    return shape[0] == "c" and shape == applied_stamp(shape[1], count)


def compare_levels(have, wanted, above, settled, first_stamp):
    """Compares each entry of the wanted level, after the realization, with the entry that the other level has. What
    the weak variables become is put into `settled`."""
    for entry in wanted:
        path = (*above, entry[1])
        other = last_entry(have, space_of(entry), entry[1])
        if other is None:
            raise BadModule("missing", path)
        other = settle((other,), settled)[0]
        tag = entry[0]
        if tag == "module":
            compare_levels(other[2], entry[2], path, settled, first_stamp)
        elif tag == "val":
            compare_schemes(other[2], entry[2], path, settled, first_stamp)
        elif other != entry:
            raise BadModule(CODES[tag], path)


CODES = {"shape": "shape", "con": "constructor", "exn": "exception"}


def compare_schemes(have, wanted, path, settled, first_stamp):
    """Raises BadModule if the scheme is not at least as general as the wanted one, for some shapes of its weak
    variables; these are put into `settled`."""
    numbers = (*variables(have[1]), *variables(wanted[1]))
    first_number = max([FREE, *[number + 1 for number in numbers]])
    first_stamp = max(first_stamp, greatest_stamp(have[1]) + 1, greatest_stamp(wanted[1]) + 1)
    left = instantiate(have, [("v", first_number + index) for index in range(have[0])])
    right = instantiate(wanted, [("c", first_stamp + index, ()) for index in range(wanted[0])])
    try:
        mapping = unify([(left, right)])
    except NotUnifiable:
        raise BadModule("value", path)
    found = {number: mapping[number] for number in variables(have[1]) if number >= FREE and number in mapping}
    if any([greatest_stamp(shape) >= first_stamp for shape in found.values()]):
        raise BadModule("value", path)
    for number in list(settled):
        settled[number] = substitute(settled[number], found)
    settled.update(found)


def thin_of(level):
    """The names of the values, exceptions and modules of a level, in its order."""
    values = tuple([entry[1] for entry in level if entry[0] == "val"])
    exceptions = tuple([entry[1] for entry in level if entry[0] == "exn"])
    modules = tuple([(entry[1], thin_of(entry[2])) for entry in level if entry[0] == "module"])
    return ("thin", values, exceptions, modules)


def realizes(have, want, realization):
    """Whether this realization makes the level match the abstract signature."""
    bound, level = want
    if sorted(realization) != sorted(bound):
        return False
    for stamp in bound:
        count, shape = realization[stamp]
        if any([len(arguments) != count for arguments in applications(level, stamp)]):
            return False
        if is_concrete(level, stamp) and not is_applied_stamp(count, shape):
            return False
    try:
        compare_levels(have, realize(level, realization), (), {}, 0)
    except ShapewrightError:
        return False
    return True


def applications(entries, stamp):
    """The arguments of the stamp wherever it occurs in the entries."""
    found = []
    for entry in entries:
        if entry[0] == "module":
            found.extend(applications(entry[2], stamp))
        else:
            for shape in shapes_in(entry):
                if stamp in stamps_in(shape):
                    found.extend(applications_in(shape, stamp))
    return found


def applications_in(shape, stamp):
    found = [shape[2]] if shape[:2] == ("c", stamp) else []
    for part in parts_of_shape(shape):
        found.extend(applications_in(part, stamp))
    return found
