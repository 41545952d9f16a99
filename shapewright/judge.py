"""The judge: whether a derivation is right for an expression, a pattern or a declaration."""

from shapewright.context import constructor_scheme, extended, extended_by_bindings, free_variables, lookup
from shapewright.errors import ShapewrightError
from shapewright.integers import is_number
from shapewright.pattern_judge import has_form, is_instance, is_tuple, pattern_bindings
from shapewright.schemes import close
from shapewright.terms import EXN, FREE, INT, UNIT, variables
from shapewright.variants import declare, elaborate, elaborate_scheme


def right_pattern(context, pattern, derivation):
    """The bindings of a right derivation, otherwise None."""
    # An error of elaboration or of an instance anywhere makes the whole derivation wrong.
    try:
        return pattern_bindings(context, pattern, derivation)
    except ShapewrightError:
        return None


def right_expression(context, expression, derivation):
    try:
        return judge_expression(context, expression, derivation)
    except ShapewrightError:
        return False


def right_declaration(context, declaration, derivation):
    """The entries and the arities after the declaration of a right derivation, otherwise None."""
    try:
        return judge_declaration(context, declaration, derivation)
    except ShapewrightError:
        return None


def is_expansive(expression):
    tag = expression[0]
    if tag == "app":
        return expression[1][0] != "con" or is_expansive(expression[2])
    if tag == "tuple":
        return any([is_expansive(part) for part in expression[1]])
    if tag == "has":
        return is_expansive(expression[1])
    return tag not in ("int", "unit", "var", "con", "fn")


def judge_expression(context, expression, derivation):
    tag = expression[0]
    if not has_form(context, derivation, tag, EXPRESSION_LENGTHS[tag]):
        return False
    rule = EXPRESSION_RULES[tag]
    return rule(context, expression, derivation)


def has_shape(context, expression, derivation, shape):
    """Whether the derivation is right for the expression and has this shape."""
    return judge_expression(context, expression, derivation) and derivation[1] == shape


def judge_constant(context, expression, derivation):
    return derivation[1] == (INT if expression[0] == "int" else UNIT)


def judge_var(context, expression, derivation):
    entry = lookup(context[0], "val", expression[1])
    return entry is not None and is_instance(context, entry[2], derivation[2], derivation[1])


def judge_con(context, expression, derivation):
    entry = lookup(context[0], "con", expression[1])
    return entry is not None and is_instance(context, constructor_scheme(entry), derivation[2], derivation[1])


def judge_fn(context, expression, derivation):
    _, shape, parts = derivation
    return shape[0] == "f" and judge_rules(context, expression[1], parts, shape[1], shape[2])


def judge_rules(context, rules, parts, start, result):
    """Whether the parts are right for the rules, from the shape `start` to the shape `result`."""
    if not is_tuple(parts, len(rules)):
        return False
    for rule, part in zip(rules, parts):
        if not is_tuple(part, 2):
            return False
        bindings = pattern_bindings(context, rule[0], part[0])
        if bindings is None or part[0][1] != start:
            return False
        if not has_shape(extended_by_bindings(context, bindings), rule[1], part[1], result):
            return False
    return True


def judge_app(context, expression, derivation):
    _, shape, function, argument = derivation
    if not judge_expression(context, expression[2], argument):
        return False
    return has_shape(context, expression[1], function, ("f", argument[1], shape))


def judge_tuple(context, expression, derivation):
    _, shape, parts = derivation
    if not is_tuple(parts, len(expression[1])):
        return False
    for inner, part in zip(expression[1], parts):
        if not judge_expression(context, inner, part):
            return False
    return shape == ("t", tuple([part[1] for part in parts]))


def judge_let(context, expression, derivation):
    _, shape, parts, body = derivation
    if not is_tuple(parts, len(expression[1])):
        return False
    for declaration, part in zip(expression[1], parts):
        result = judge_declaration(context, declaration, part)
        if result is None:
            return False
        context = extended(context, result[0])
    return has_shape(context, expression[2], body, shape)


def judge_case(context, expression, derivation):
    _, shape, subject, parts = derivation
    if not judge_expression(context, expression[1], subject):
        return False
    return judge_rules(context, expression[2], parts, subject[1], shape)


def judge_raise(context, expression, derivation):
    return has_shape(context, expression[1], derivation[2], EXN)


def judge_handle(context, expression, derivation):
    _, shape, inner, parts = derivation
    if not has_shape(context, expression[1], inner, shape):
        return False
    return judge_rules(context, expression[2], parts, EXN, shape)


def judge_has(context, expression, derivation):
    _, shape, inner = derivation
    return shape == elaborate(context, (), expression[2]) and has_shape(context, expression[1], inner, shape)


EXPRESSION_LENGTHS = {
    "int": 2, "unit": 2, "var": 3, "con": 3, "fn": 3, "app": 4, "tuple": 3, "let": 4, "case": 4, "raise": 3,
    "handle": 4, "has": 3,
}
EXPRESSION_RULES = {
    "int": judge_constant, "unit": judge_constant, "var": judge_var, "con": judge_con, "fn": judge_fn,
    "app": judge_app, "tuple": judge_tuple, "let": judge_let, "case": judge_case, "raise": judge_raise,
    "handle": judge_handle, "has": judge_has,
}


def judge_declaration(context, declaration, derivation):
    tag = declaration[0]
    if tag == "val":
        return judge_val(context, declaration, derivation)
    if tag == "rec":
        return judge_rec(context, declaration, derivation)
    return declare(context, declaration) if derivation == (tag,) else None


def judge_val(context, declaration, derivation):
    _, pattern, expression = declaration
    if not is_tuple(derivation, 3) or derivation[0] != "val":
        return None
    bindings = pattern_bindings(context, pattern, derivation[1])
    if bindings is None or not has_shape(context, expression, derivation[2], derivation[1][1]):
        return None
    if is_expansive(expression):
        schemes = [(name, (0, shape)) for name, shape in bindings]
    else:
        fixed = free_variables(context[0])
        schemes = [(name, close(shape, fixed)) for name, shape in bindings]
    return value_entries(schemes), context[1]


def value_entries(schemes):
    return tuple([("val", name, scheme) for name, scheme in schemes])


def judge_rec(context, declaration, derivation):
    bindings = declaration[1]
    if not is_tuple(derivation, 2) or derivation[0] != "rec" or not is_tuple(derivation[1], len(bindings)):
        return None
    if len({name for name, _, _ in bindings}) != len(bindings):
        return None
    pairs = list(zip(bindings, derivation[1]))
    if not all([has_part_form(context, binding, part) for binding, part in pairs]):
        return None
    inner = extended(context, [rec_entry(context, binding, part) for binding, part in pairs])
    barred = barred_numbers(context, pairs)
    for binding, part in pairs:
        if not judge_binding(inner, binding, part, barred):
            return None
    return closed_entries(context, pairs), context[1]


def has_part_form(context, binding, part):
    """Whether the part of a binding has the form that the binding needs, up to its inner derivation."""
    if binding[1] is None:
        return is_tuple(part, 2) and part[0] == "plain" and has_form(context, part[1], "fn", 3)
    if not is_tuple(part, 3) or part[0] != "fixed" or not is_tuple(part[1], len(binding[1][0])):
        return False
    return all([is_number(number) and number >= FREE for number in part[1]])


def rec_entry(context, binding, part):
    """The entry that a binding has in the rules of its declaration."""
    if binding[1] is None:
        return ("val", binding[0], (0, part[1][1]))
    return ("val", binding[0], elaborate_scheme(context, binding[1]))


def barred_numbers(context, pairs):
    """The numbers of variables that the names of annotations may not stand for, as keys."""
    barred = {number: True for number in free_variables(context[0])}
    for binding, part in pairs:
        if binding[1] is None:
            barred.update({number: True for number in variables(part[1][1])})
    return barred


def judge_binding(context, binding, part, barred):
    """Whether the part of a binding is right; the context has the entries of all bindings."""
    _, annotation, rules = binding
    if annotation is None:
        return judge_expression(context, ("fn", rules), part[1])
    _, numbers, derivation = part
    if len({number for number in numbers}) != len(numbers) or any([number in barred for number in numbers]):
        return False
    names, surface = annotation
    inner = extended(context, [("name", name, ("v", number)) for name, number in zip(names, numbers)])
    return has_shape(inner, ("fn", rules), derivation, elaborate(inner, (), surface))


def closed_entries(context, pairs):
    fixed = free_variables(context[0])
    schemes = []
    for binding, part in pairs:
        if binding[1] is None:
            schemes.append((binding[0], close(part[1][1], fixed)))
        else:
            schemes.append((binding[0], elaborate_scheme(context, binding[1])))
    return value_entries(schemes)
