"""Whether values are what shapes and levels say of them."""

from shapewright.lower import field_words
from shapewright.terms import replaced

FUNCTIONS = ("fun", "fix")
INT_STAMP = 0
UNIT_STAMP = 1
EXN_STAMP = 2
REF_STAMP = 3
# For each word of a label, the tag of the entries to which it belongs.
TAGS = {"val": "val", "exn": "exn", "mod": "module", "fun": "functor"}


def agrees(entries, shape, value, store, depth):
    """Whether a value agrees with a shape, as far as the depth goes."""
    if depth == 0:
        return True
    pairs = inside(entries, shape, value, store)
    if pairs is None:
        return False
    for part, inner in pairs:
        if not agrees(entries, part, inner, store, depth - 1):
            return False
    return True


def inside(entries, shape, value, store):
    """The pairs of a shape and a value that must agree for these two to agree; None if they do not."""
    tag = shape[0]
    if tag == "t":
        fits = value[0] == "tuple" and len(value[1]) == len(shape[1])
        return list(zip(shape[1], value[1])) if fits else None
    if tag == "f":
        return [] if value[0] in FUNCTIONS else None
    if tag == "v":
        return None
    stamp = shape[1]
    if stamp == INT_STAMP:
        return [] if value[0] == "int" else None
    if stamp == UNIT_STAMP:
        return [] if value == ("tuple", ()) else None
    if stamp == EXN_STAMP:
        return [] if value[0] == "packet" else None
    if stamp == REF_STAMP:
        return inside_reference(shape[2][0], value, store)
    return inside_constructor(entries, shape, value)


def inside_reference(argument, value, store):
    """The pair that must agree for a value to agree with a `ref` shape of this argument."""
    # Python would count a negative place from the end of the store.
    if value[0] != "ref" or not 0 <= value[1] < len(store):
        return None
    return [(argument, store[value[1]])]


def inside_constructor(entries, shape, value):
    """The pairs that must agree for a value to agree with a shape of variants or of hidden values."""
    constructors = constructors_of(entries, shape[1])
    if not constructors:
        return []
    if value[0] != "con":
        return None
    _, index, name, argument = value
    entry = constructors.get(index)
    if entry is None:
        return []
    _, known, _, wanted, result, _, _ = entry
    if name != known or (argument is None) != (wanted is None):
        return None
    if wanted is None:
        return []
    # Values of a recursive variant may have shapes far beyond the bounds.
    filled = replaced(wanted, {part[1]: shape[2][place] for place, part in enumerate(result[2])})
    return [(filled, argument)]


def constructors_of(entries, stamp):
    """The constructors of a stamp by their indexes, also those in modules; the first one of an index counts."""
    found = {}
    for entry in entries:
        if entry[0] == "con" and entry[4][1] == stamp:
            found.setdefault(entry[5], entry)
        elif entry[0] == "module":
            inner = constructors_of(entry[2], stamp)
            for index in inner:
                found.setdefault(index, inner[index])
    return found


def agrees_with_level(entries, level, value, store, depth):
    """Whether a record agrees with a level; each of its values is looked at as far as the depth goes."""
    if value[0] != "record":
        return False
    labels = [f"{word} {name}" for word, name in field_words(level)]
    if [label for label, _ in value[1]] != labels:
        return False
    members = {}
    for entry in level:
        members[entry[0], entry[1]] = entry
    for (word, name), (_, part) in zip(field_words(level), value[1]):
        if not field_agrees(entries, members[TAGS[word], name], part, store, depth):
            return False
    return True


def field_agrees(entries, entry, value, store, depth):
    """Whether the field of an entry of a level agrees with it."""
    tag = entry[0]
    if tag == "val":
        return agrees(entries, entry[2][1], value, store, depth)
    if tag == "exn":
        return value[0] == "exn" and value[2] == entry[1]
    if tag == "module":
        return agrees_with_level(entries, entry[2], value, store, depth)
    return value[0] == "fun"
