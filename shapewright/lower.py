"""Lowering: accepted phrases become plain trees, which carry no shapes."""

from shapewright.context import extended, lookup
from shapewright.pattern_judge import argument_of
from shapewright.terms import UNIT

ARGUMENT = "arg -"
OPENED = "mod -"


def referred(word, path):
    """The plain expression of a path to a value, an exception, a module or a functor, as the word says."""
    label = f"{word} {path[-1]}"
    if len(path) == 1:
        return ("var", path[0] if word == "val" else label)
    tree = ("var", f"mod {path[0]}")
    for name in path[1:-1]:
        tree = ("field", f"mod {name}", tree)
    return ("field", label, tree)


def lower_pattern(context, pattern):
    """The plain pattern of a pattern that was accepted in the context."""
    tag = pattern[0]
    if tag == "pany":
        return ("any",)
    if tag == "punit":
        return ("tuple", ())
    if tag == "pvar":
        return ("var", pattern[1])
    if tag == "pint":
        return ("int", pattern[1])
    if tag == "ptuple":
        return ("tuple", tuple([lower_pattern(context, part) for part in pattern[1]]))
    if tag == "pas":
        return ("as", pattern[1], lower_pattern(context, pattern[2]))
    if tag == "phas":
        return lower_pattern(context, pattern[1])
    argument = None if pattern[2] is None else lower_pattern(context, pattern[2])
    return (*constructor_head(context, pattern[1])[1], argument)


def constructor_head(context, path):
    """The entry to which the path of a constructor or an exception leads, and its plain tree without the argument."""
    entry = lookup(context[0], "con", path)
    if entry[0] == "exn":
        return entry, ("packet", referred("exn", path))
    return entry, ("con", entry[6], entry[5])


def lower(context, expression):
    """The plain expression of an expression that was accepted in the context."""
    action = LOWERED[expression[0]]
    return action(context, expression)


def lower_leaf(context, expression):
    return expression if expression[0] == "int" else ("tuple", ())


def lower_var(context, expression):
    return referred("val", expression[1])


def lower_con(context, expression):
    entry, head = constructor_head(context, expression[1])
    if argument_of(entry) is None:
        return (*head, None)
    return ("fn", ARGUMENT, (*head, ("var", ARGUMENT)))


def lower_fn(context, expression):
    return ("fn", ARGUMENT, argument_match(context, expression[1]))


def argument_match(context, rules):
    """The body of a function with these rules."""
    return ("match", ("var", ARGUMENT), lower_rules(context, rules), "Match")


def lower_rules(context, rules):
    return tuple([(lower_pattern(context, pattern), lower(context, part)) for pattern, part in rules])


def lower_app(context, expression):
    _, function, argument = expression
    if function[0] == "con":
        entry, head = constructor_head(context, function[1])
        if argument_of(entry) is not None:
            return (*head, lower(context, argument))
    return ("app", lower(context, function), lower(context, argument))


def lower_tuple(context, expression):
    return ("tuple", tuple([lower(context, part) for part in expression[1]]))


def lower_let(context, expression):
    lowered = []
    for declaration in expression[1]:
        lowered.extend(lower_declaration(context, declaration))
        if declaration[0] == "exception":
            _, name, surface = declaration
            # Of the argument only matters whether there is one.
            context = extended(context, [("exn", name, None if surface is None else UNIT)])
    return wrap(lowered, lower(context, expression[2]))


def lower_case(context, expression):
    return ("match", lower(context, expression[1]), lower_rules(context, expression[2]), "Match")


def lower_raise(context, expression):
    return ("raise", lower(context, expression[1]))


def lower_handle(context, expression):
    return ("handle", lower(context, expression[1]), lower_rules(context, expression[2]))


def lower_has(context, expression):
    return lower(context, expression[1])


LOWERED = {
    "int": lower_leaf, "unit": lower_leaf, "var": lower_var, "con": lower_con, "fn": lower_fn, "app": lower_app,
    "tuple": lower_tuple, "let": lower_let, "case": lower_case, "raise": lower_raise, "handle": lower_handle,
    "has": lower_has,
}


def lower_declaration(context, declaration):
    """The lowered declarations of a core declaration that was accepted in the context."""
    tag = declaration[0]
    if tag == "val":
        return [("bind", lower_pattern(context, declaration[1]), lower(context, declaration[2]))]
    if tag == "rec":
        bindings = [(name, ARGUMENT, argument_match(context, rules)) for name, _, rules in declaration[1]]
        return [("rec", tuple(bindings))]
    if tag == "exception":
        return [("let", f"exn {declaration[1]}", ("exception", declaration[1]))]
    return []


def wrap(lowered, body):
    """The body inside lowered declarations, the first one outermost."""
    for declaration in lowered[::-1]:
        tag = declaration[0]
        if tag == "bind":
            body = ("match", declaration[2], ((declaration[1], body),), "Bind")
        else:
            body = (*declaration, body)
    return body


def field_words(level):
    """For each field of the record of a level, in order, the word and the name of which its label is made."""
    found = []
    for tag, word in (("val", "val"), ("exn", "exn"), ("module", "mod"), ("functor", "fun")):
        names = sorted([entry[1] for entry in level if entry[0] == tag])
        found.extend([(word, name) for name in names])
    return found


def record(level):
    """The record of the structure with this level, where its members are in scope."""
    return ("record", tuple([(f"{word} {name}", referred(word, (name,))) for word, name in field_words(level)]))


def opened(path, level):
    """The lowered declarations of an opened module."""
    lowered = [("let", OPENED, referred("mod", path))]
    for word, name in field_words(level):
        lowered.append(("let", referred(word, (name,))[1], ("field", f"{word} {name}", ("var", OPENED))))
    return lowered


def thinned(plain, thin):
    """The plain expression of a structure of which only the fields that `thin` names are kept."""
    _, values, exceptions, modules = thin
    fields = [kept_field(f"val {name}") for name in values]
    fields.extend([kept_field(f"exn {name}") for name in exceptions])
    for name, inner in modules:
        label, field = kept_field(f"mod {name}")
        fields.append((label, thinned(field, inner)))
    return ("let", OPENED, plain, ("record", tuple(fields)))


def kept_field(label):
    return label, ("field", label, ("var", OPENED))
