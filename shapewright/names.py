"""Looking up all names of a phrase, in the order of its text."""

from shapewright.context import extended, lookup
from shapewright.errors import UnknownName
from shapewright.terms import FREE, UNIT
from shapewright.variants import check_different, declare, elaborate, elaborate_scheme

DECLARATION_TAGS = ("val", "rec", "alias", "variant", "exception")


def check_names(context, phrase):
    """Raises the first error of the names of an expression or a core declaration."""
    if phrase[0] in DECLARATION_TAGS:
        check_declaration(context, phrase)
    else:
        check_expression(context, phrase)


def value_entries(names):
    """Entries for variables of which only the names matter here."""
    return [("val", name, (0, UNIT)) for name in names]


def check_path(context, space, path):
    if lookup(context[0], space, path) is None:
        raise UnknownName(path)


def check_pattern(context, pattern):
    """Looks up the names of a pattern and returns the names of its variables."""
    tag = pattern[0]
    if tag == "pvar":
        return [pattern[1]]
    if tag == "pcon":
        check_path(context, "con", pattern[1])
        return [] if pattern[2] is None else check_pattern(context, pattern[2])
    if tag == "ptuple":
        found = []
        for part in pattern[1]:
            found.extend(check_pattern(context, part))
        return found
    if tag == "pas":
        return [pattern[1], *check_pattern(context, pattern[2])]
    if tag == "phas":
        found = check_pattern(context, pattern[1])
        elaborate(context, (), pattern[2])
        return found
    return []


def check_expression(context, expression):
    tag = expression[0]
    if tag in ("var", "con"):
        check_path(context, "val" if tag == "var" else "con", expression[1])
    elif tag == "fn":
        check_rules(context, expression[1])
    elif tag in ("case", "handle"):
        check_expression(context, expression[1])
        check_rules(context, expression[2])
    elif tag == "let":
        check_let(context, expression[1], expression[2])
    elif tag == "has":
        check_expression(context, expression[1])
        elaborate(context, (), expression[2])
    elif tag not in ("int", "unit"):
        for part in expressions_in(expression):
            check_expression(context, part)


def expressions_in(expression):
    """The expressions directly in an application, a tuple or a raise."""
    return expression[1] if expression[0] == "tuple" else expression[1:]


def check_rules(context, rules):
    for pattern, expression in rules:
        names = check_pattern(context, pattern)
        check_expression(extended(context, value_entries(names)), expression)


def check_let(context, declarations, body):
    for declaration in declarations:
        context = extended(context, check_declaration(context, declaration))
    check_expression(context, body)


def check_declaration(context, declaration):
    """Looks up the names of a declaration and returns entries for those that it declares."""
    tag = declaration[0]
    if tag == "val":
        names = check_pattern(context, declaration[1])
        check_expression(context, declaration[2])
        return value_entries(names)
    if tag == "rec":
        return check_rec(context, declaration[1])
    return declare(context, declaration)[0]


def check_rec(context, bindings):
    names = [name for name, _, _ in bindings]
    check_different(names)
    entries = value_entries(names)
    inner = extended(context, entries)
    for _, annotation, rules in bindings:
        if annotation is None:
            check_rules(inner, rules)
        else:
            elaborate_scheme(inner, annotation)
            check_rules(extended(inner, name_entries(annotation[0])), rules)
    return entries


def name_entries(names):
    """Entries for the names of an annotation; each stands for a variable of its own."""
    return [("name", name, ("v", FREE + index)) for index, name in enumerate(names)]
