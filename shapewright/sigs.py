"""Elaborating signature expressions."""

from shapewright.context import extended, lookup, space_of
from shapewright.errors import BadModule
from shapewright.levels import realize, tidy
from shapewright.variants import applied_stamp, check_different, declare, elaborate_scheme


def elaborate_signature(context, sexp):
    """The abstract signature of a signature expression, and the arities with the new stamps at the end."""
    if sexp[0] == "gname":
        return named_signature(context, sexp[1])
    if sexp[0] == "sig":
        return listed_signature(context, sexp[1])
    return refined_signature(context, sexp)


def named_signature(context, name):
    entry = lookup(context[0], "signature", (name,))
    if entry is None:
        raise BadModule("signature", (name,))
    bound, level = entry[2]
    renaming, arities = new_stamps(context[1], bound)
    new = tuple(range(len(context[1]), len(arities)))
    return (new, realize(level, renaming)), arities


def new_stamps(arities, stamps):
    """The realization that replaces each of the stamps by a new one, in order, and the arities after it."""
    realization = {}
    for stamp in stamps:
        count = arities[stamp]
        realization[stamp] = (count, applied_stamp(len(arities), count))
        arities = (*arities, count)
    return realization, arities


def listed_signature(context, specs):
    bound = ()
    added = {}
    entries = []
    for spec in specs:
        new, more, arities = elaborate_spec(context, spec)
        for entry in new:
            if (space_of(entry), entry[1]) in added:
                raise BadModule("double", (entry[1],))
        for entry in new:
            added[space_of(entry), entry[1]] = True
        entries.extend(new)
        bound = (*bound, *more)
        context = extended((context[0], arities), new)
    return (bound, tidy(entries)), context[1]


def elaborate_spec(context, spec):
    """The entries of a spec, the stamps that it leaves open, and the arities after it."""
    tag = spec[0]
    arities = context[1]
    if tag == "val":
        return (("val", spec[1], elaborate_scheme(context, spec[2])),), (), arities
    if tag == "shape":
        _, names, name = spec
        check_different(names)
        stamp, count = len(arities), len(names)
        return (("shape", name, count, applied_stamp(stamp, count)),), (stamp,), (*arities, count)
    if tag == "module":
        (bound, level), arities = elaborate_signature(context, spec[2])
        return (("module", spec[1], level),), bound, arities
    if tag == "include":
        (bound, level), arities = elaborate_signature(context, spec[1])
        return level, bound, arities
    entries, after = declare(context, spec)
    return entries, tuple(range(len(arities), len(after))), after


def refined_signature(context, sexp):
    """The signature of a `where`: one abstract stamp is bound no more."""
    _, inner, path, names, surface = sexp
    (bound, level), arities = elaborate_signature(context, inner)
    entry = lookup(level, "shape", path)
    if entry is None or entry[2] != len(names) or not leaves_open(bound, level, entry):
        raise BadModule("where", path)
    # The shape is written outside of the signature, so none of its names are in scope there.
    entries, _ = declare(context, ("alias", names, path[-1], surface))
    stamp = entry[3][1]
    kept = tuple([other for other in bound if other != stamp])
    return (kept, realize(level, {stamp: entries[0][2:]})), arities


def leaves_open(bound, level, entry):
    """Whether the shape entry is one of a bound, abstract stamp."""
    stamp = named_stamp(entry)
    return stamp is not None and stamp in bound and not is_concrete(level, stamp)


def named_stamp(entry):
    """The stamp of which the shape entry is the plain name, or None."""
    shape = entry[3]
    return shape[1] if shape[0] == "c" and shape == applied_stamp(shape[1], entry[2]) else None


def is_concrete(level, stamp):
    """Whether a constructor of the level, at any depth, has the stamp as its result's."""
    for entry in level:
        if entry[0] == "con" and entry[4][1] == stamp:
            return True
        if entry[0] == "module" and is_concrete(entry[2], stamp):
            return True
    return False


def home(level, stamp):
    """The first path to the shape entry whose plain stamp this is, or None."""
    for entry in level:
        if entry[0] == "shape" and named_stamp(entry) == stamp:
            return (entry[1],)
    for entry in level:
        if entry[0] == "module":
            path = home(entry[2], stamp)
            if path is not None:
                return (entry[1], *path)
    return None
