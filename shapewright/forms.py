"""The forms of the trees: for each kind and tag, what the fields of a tree hold."""

from shapewright.integers import is_list
from shapewright.lexicon import LEAVES, is_capital, is_names, is_small, is_value_name

MAX_NODES = 400
MAX_LEVEL = 14

# A field is a kind of tree, perhaps "optional", a list as in "2 to 6 shape", or a key of LEAVES or GROUPS.
FORMS = {
    "shape svar": ("small",),
    "shape sname": ("small path", "0 to 4 shape"),
    "shape stuple": ("2 to 6 shape",),
    "shape sarrow": ("shape", "shape"),
    "pattern pany": (),
    "pattern punit": (),
    "pattern pvar": ("value name",),
    "pattern pint": ("integer",),
    "pattern pcon": ("capital path", "optional pattern"),
    "pattern ptuple": ("2 to 6 pattern",),
    "pattern pas": ("value name", "pattern"),
    "pattern phas": ("pattern", "shape"),
    "expression int": ("integer",),
    "expression unit": (),
    "expression var": ("value path",),
    "expression con": ("capital path",),
    "expression fn": ("rules",),
    "expression app": ("expression", "expression"),
    "expression tuple": ("2 to 6 expression",),
    "expression let": ("1 to 12 local", "expression"),
    "expression case": ("expression", "rules"),
    "expression raise": ("expression",),
    "expression handle": ("expression", "rules"),
    "expression has": ("expression", "shape"),
    "local val": ("pattern", "expression"),
    "local rec": ("bindings",),
    "local alias": ("names", "small", "shape"),
    "local exception": ("capital", "optional shape"),
    "declaration variant": ("group",),
    "declaration module": ("capital", "module"),
    "declaration functor": ("capital", "capital", "signature", "module"),
    "declaration open": ("capital path",),
    "top signature": ("capital", "signature"),
    "module struct": ("0 to 12 declaration",),
    "module mpath": ("capital path",),
    "module apply": ("capital path", "module"),
    "module sees": ("module", "signature"),
    "module seals": ("module", "signature"),
    "module mlet": ("1 to 12 declaration", "module"),
    "signature sig": ("0 to 12 spec",),
    "signature gname": ("capital",),
    "signature where": ("signature", "small path", "names", "shape"),
    "spec val": ("value name", "scheme"),
    "spec shape": ("names", "small"),
    "spec alias": ("names", "small", "shape"),
    "spec variant": ("group",),
    "spec exception": ("capital", "optional shape"),
    "spec module": ("capital", "signature"),
    "spec include": ("signature",),
}

# A kind without a form of its own for a tag has those of the next one.
WIDER = {"top": "declaration", "declaration": "local"}

KINDS = ("shape", "pattern", "expression", "module", "signature", "top", "spec")


def fields_of(kind, tag):
    """The fields behind the tag of a tree of this kind, or None if the kind has no such tag."""
    if not isinstance(tag, str):
        return None
    while f"{kind} {tag}" not in FORMS and kind in WIDER:
        kind = WIDER[kind]
    return FORMS.get(f"{kind} {tag}")


def optional_part(kind, value):
    return [] if value is None else [(kind, value)]


def scheme_parts(value):
    if not is_list(value, 2, 2) or not is_names(value[0]):
        return None
    return [("shape", value[1])]


def rules_parts(value):
    if not is_list(value, 1, 8) or not all(is_list(rule, 2, 2) for rule in value):
        return None
    parts = []
    for pattern, expression in value:
        parts.extend([("pattern", pattern), ("expression", expression)])
    return parts


def binding_parts(binding):
    if not is_list(binding, 3, 3) or not is_value_name(binding[0]):
        return None
    annotation = [] if binding[1] is None else scheme_parts(binding[1])
    rules = rules_parts(binding[2])
    if annotation is None or rules is None:
        return None
    return annotation + rules


def constructor_parts(constructor):
    if not is_list(constructor, 2, 2) or not is_capital(constructor[0]):
        return None
    return optional_part("shape", constructor[1])


def joined_parts(values, action):
    """The parts of all values in order, or None if one of them has no form."""
    parts = []
    for value in values:
        found = action(value)
        if found is None:
            return None
        parts.extend(found)
    return parts


def element_parts(element):
    if not is_list(element, 3, 3) or not is_names(element[0]) or not is_small(element[1]):
        return None
    if not is_list(element[2], 1, 12):
        return None
    return joined_parts(element[2], constructor_parts)


def bindings_parts(value):
    return joined_parts(value, binding_parts) if is_list(value, 1, 6) else None


def group_parts(value):
    return joined_parts(value, element_parts) if is_list(value, 1, 4) else None


GROUPS = {"scheme": scheme_parts, "rules": rules_parts, "bindings": bindings_parts, "group": group_parts}


def list_parts(words, value):
    low, high, kind = int(words[0]), int(words[2]), words[3]
    if not is_list(value, low, high):
        return None
    return [(kind, part) for part in value]


def field_parts(field, value):
    """The trees of a field, each with its kind, from left to right; None if the value has not the field's form."""
    if field in LEAVES:
        holds = LEAVES[field]
        return [] if holds(value) else None
    if field in GROUPS:
        action = GROUPS[field]
        return action(value)
    words = field.split()
    if words[0] == "optional":
        return optional_part(words[1], value)
    if len(words) > 1:
        return list_parts(words, value)
    return [(field, value)]


def parts_of(kind, tree):
    """The children of a tree, each with its kind; None if the tree has no form of the kind."""
    if not isinstance(tree, tuple) or not tree:
        return None
    fields = fields_of(kind, tree[0])
    if fields is None or len(tree) != len(fields) + 1:
        return None
    parts = []
    for field, value in zip(fields, tree[1:]):
        found = field_parts(field, value)
        if found is None:
            return None
        parts.extend(found)
    return parts


def kind_of(tree):
    """The kind of a tree that has a form; the two kinds with the tag `val` differ in what follows it."""
    if tree[0] == "val" and isinstance(tree[1], str):
        return "spec"
    for kind in KINDS:
        if fields_of(kind, tree[0]) is not None:
            return kind
    return None


def bound_name(tree):
    """The name that a pattern binds itself, or None."""
    return tree[1] if tree[0] in ("pvar", "pas") else None


def all_well_formed(kind, trees):
    """Whether all trees have forms of the kind and are well formed, taken together."""
    count = 0
    waiting = [(kind, tree, 1, {}) for tree in trees]
    while waiting:
        kind, tree, level, bound = waiting.pop()
        count += 1
        parts = parts_of(kind, tree)
        if parts is None or count > MAX_NODES or level > MAX_LEVEL:
            return False
        name = bound_name(tree)
        if name in bound:
            return False
        if name is not None:
            bound[name] = True
        for part_kind, part in parts:
            # The variables of a pattern are looked at together; every other pattern begins anew.
            shared = bound if kind == "pattern" and part_kind == "pattern" else {}
            waiting.append((part_kind, part, level + 1, shared))
    return True
