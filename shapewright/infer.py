"""The most general shape of an expression or a core declaration, with a derivation for it.

A derivation is made with the shapes as they are known at each node; at the end, all that is known then is put
into it. All functions that find a part of it return it as its first or only result.
"""

from shapewright.context import constructor_scheme, extended, extended_by_bindings, lookup, settle
from shapewright.errors import NotShaped, NotUnifiable
from shapewright.judge import is_expansive
from shapewright.names import check_names
from shapewright.pattern_judge import argument_of
from shapewright.schemes import close
from shapewright.solver import Solver
from shapewright.terms import EXN, FREE, INT, UNIT, substitute, variables
from shapewright.variants import declare, elaborate, elaborate_scheme

SHAPE_TAGS = ("v", "c", "t", "f")


def infer_expression(context, expression, *, first=FREE):
    """The shape of the expression, what is settled in the context, and the derivation."""
    check_names(context, expression)
    solver = Solver(context, first)
    try:
        derivation = find_expression(solver, context, expression)
        mapping = solver.mapping()
    except NotUnifiable:
        raise NotShaped("the expression has no shape")
    settled = settled_numbers(solver, context, mapping)
    derivation = known(derivation, mapping)
    return derivation[1], settled, derivation


def infer_declaration(context, declaration, *, first=FREE):
    """The entries and arities of the declaration, what is settled in the context, and the derivation."""
    check_names(context, declaration)
    solver = Solver(context, first)
    try:
        derivation, entries, arities = find_declaration(solver, context, declaration)
        mapping = solver.mapping()
    except NotUnifiable:
        raise NotShaped("the declaration has no shape")
    settled = settled_numbers(solver, context, mapping)
    return settle(entries, mapping), arities, settled, known(derivation, mapping)


def settled_numbers(solver, context, mapping):
    """What is known of the free variables of the context; raises TooLarge for a shape that no derivation shows."""
    settled = {number: mapping[number] for number in solver.outer_numbers if number in mapping}
    settle(context[0], settled)
    for shape in solver.unseen:
        substitute(shape, mapping)
    return settled


def known(part, mapping):
    """A part of a derivation with everything replaced that is known."""
    if not isinstance(part, tuple) or not part:
        return part
    if part[0] in SHAPE_TAGS:
        return substitute(part, mapping)
    if part[0] == "fixed":
        numbers = [substitute(("v", number), mapping)[1] for number in part[1]]
        return ("fixed", tuple(numbers), known(part[2], mapping))
    return tuple([known(inner, mapping) for inner in part])


def find_pattern(solver, context, pattern):
    """The derivation of a pattern, and its bindings."""
    tag = pattern[0]
    if tag == "pany":
        return ("pany", solver.fresh()), ()
    if tag == "pvar":
        shape = solver.fresh()
        return ("pvar", shape), ((pattern[1], shape),)
    if tag in ("pint", "punit"):
        return (tag, INT if tag == "pint" else UNIT), ()
    if tag == "pcon":
        return find_constructor_pattern(solver, context, pattern)
    if tag == "ptuple":
        return find_tuple_pattern(solver, context, pattern[1])
    if tag == "pas":
        inner, bindings = find_pattern(solver, context, pattern[2])
        return ("pas", inner[1], inner), ((pattern[1], inner[1]), *bindings)
    inner, bindings = find_pattern(solver, context, pattern[1])
    solver.equal(inner[1], elaborate(context, (), pattern[2]))
    return ("phas", inner[1], inner), bindings


def find_constructor_pattern(solver, context, pattern):
    _, path, argument = pattern
    entry = lookup(context[0], "con", path)
    if (argument_of(entry) is None) != (argument is None):
        raise NotShaped("a constructor pattern has an argument too many or too few")
    shapes, shape = solver.instance(constructor_scheme(entry))
    if argument is None:
        return ("pcon", shape, shapes), ()
    inner, bindings = find_pattern(solver, context, argument)
    solver.equal(inner[1], shape[1])
    # The derivation shows the two sides of this function only, but the rule asks for the whole of it.
    solver.note_unseen(shape)
    return ("pcon", shape[2], shapes, inner), bindings


def find_tuple_pattern(solver, context, patterns):
    parts = []
    found = []
    for pattern in patterns:
        part, bindings = find_pattern(solver, context, pattern)
        parts.append(part)
        found.extend(bindings)
    return ("ptuple", tuple_shape(parts), tuple(parts)), tuple(found)


def tuple_shape(derivations):
    return ("t", tuple([derivation[1] for derivation in derivations]))


def find_expression(solver, context, expression):
    action = EXPRESSION_FINDERS[expression[0]]
    return action(solver, context, expression)


def find_constant(solver, context, expression):
    return expression[0], INT if expression[0] == "int" else UNIT


def find_var(solver, context, expression):
    shapes, shape = solver.instance(lookup(context[0], "val", expression[1])[2])
    return ("var", shape, shapes)


def find_con(solver, context, expression):
    shapes, shape = solver.instance(constructor_scheme(lookup(context[0], "con", expression[1])))
    return ("con", shape, shapes)


def find_fn(solver, context, expression):
    start, result = solver.fresh(), solver.fresh()
    parts = find_rules(solver, context, expression[1], start, result)
    return ("fn", ("f", start, result), parts)


def find_rules(solver, context, rules, start, result):
    """The derivations of rules from the shape `start` to the shape `result`."""
    parts = []
    for pattern, expression in rules:
        first, bindings = find_pattern(solver, context, pattern)
        solver.equal(first[1], start)
        second = find_expression(solver, extended_by_bindings(context, bindings), expression)
        solver.equal(second[1], result)
        parts.append((first, second))
    return tuple(parts)


def find_app(solver, context, expression):
    function = find_expression(solver, context, expression[1])
    argument = find_expression(solver, context, expression[2])
    result = solver.fresh()
    solver.equal(function[1], ("f", argument[1], result))
    return ("app", result, function, argument)


def find_tuple(solver, context, expression):
    parts = [find_expression(solver, context, part) for part in expression[1]]
    return ("tuple", tuple_shape(parts), tuple(parts))


def find_let(solver, context, expression):
    parts = []
    for declaration in expression[1]:
        part, entries, _ = find_declaration(solver, context, declaration)
        parts.append(part)
        context = extended(context, entries)
    body = find_expression(solver, context, expression[2])
    return ("let", body[1], tuple(parts), body)


def find_case(solver, context, expression):
    subject = find_expression(solver, context, expression[1])
    result = solver.fresh()
    return ("case", result, subject, find_rules(solver, context, expression[2], subject[1], result))


def find_raise(solver, context, expression):
    inner = find_expression(solver, context, expression[1])
    solver.equal(inner[1], EXN)
    return ("raise", solver.fresh(), inner)


def find_handle(solver, context, expression):
    inner = find_expression(solver, context, expression[1])
    return ("handle", inner[1], inner, find_rules(solver, context, expression[2], EXN, inner[1]))


def find_has(solver, context, expression):
    inner = find_expression(solver, context, expression[1])
    shape = elaborate(context, (), expression[2])
    solver.equal(inner[1], shape)
    return ("has", shape, inner)


EXPRESSION_FINDERS = {
    "int": find_constant, "unit": find_constant, "var": find_var, "con": find_con, "fn": find_fn,
    "app": find_app, "tuple": find_tuple, "let": find_let, "case": find_case, "raise": find_raise,
    "handle": find_handle, "has": find_has,
}


def find_declaration(solver, context, declaration):
    """The derivation of a declaration, its entries, and the arities after it."""
    tag = declaration[0]
    if tag == "val":
        derivation, entries = find_val(solver, context, declaration)
    elif tag == "rec":
        derivation, entries = find_rec(solver, context, declaration[1])
    else:
        entries, arities = declare(context, declaration)
        return (tag,), entries, arities
    return derivation, entries, context[1]


def find_val(solver, context, declaration):
    _, pattern, expression = declaration
    first, bindings = find_pattern(solver, context, pattern)
    second = find_expression(solver, context, expression)
    solver.equal(first[1], second[1])
    if is_expansive(expression):
        entries = [("val", name, (0, shape)) for name, shape in bindings]
    else:
        fixed = solver.fixed_numbers(context)
        entries = [("val", name, close(solver.now(shape), fixed)) for name, shape in bindings]
    return ("val", first, second), tuple(entries)


def find_rec(solver, context, bindings):
    entries = [("val", binding[0], first_scheme(solver, context, binding)) for binding in bindings]
    inner = extended(context, entries)
    pairs = list(zip(bindings, entries))
    parts = [find_binding(solver, inner, binding, entry[2][1]) for binding, entry in pairs]
    fixed = solver.fixed_numbers(context)
    plain_shapes = [solver.now(entry[2][1]) for binding, entry in pairs if binding[1] is None]
    check_fixed_parts(solver, parts, {number: True for number in [*fixed, *numbers_in(plain_shapes)]})
    closed = []
    for binding, entry in pairs:
        scheme = entry[2] if binding[1] is not None else close(solver.now(entry[2][1]), fixed)
        closed.append(("val", binding[0], scheme))
    return ("rec", tuple(parts)), tuple(closed)


def first_scheme(solver, context, binding):
    """The scheme of a binding in the rules of its own declaration."""
    if binding[1] is None:
        return (0, solver.fresh())
    return elaborate_scheme(context, binding[1])


def find_binding(solver, context, binding, shape):
    """The part of the derivation for a binding; the shape is the one of a binding without an annotation."""
    _, annotation, rules = binding
    if annotation is None:
        derivation = find_fn(solver, context, ("fn", rules))
        solver.equal(derivation[1], shape)
        return ("plain", derivation)
    names, surface = annotation
    stand_ins = [solver.fresh() for _ in names]
    inner = extended(context, [("name", name, stand_in) for name, stand_in in zip(names, stand_ins)])
    derivation = find_fn(solver, inner, ("fn", rules))
    solver.equal(derivation[1], elaborate(inner, (), surface))
    return ("fixed", tuple([stand_in[1] for stand_in in stand_ins]), derivation)


def numbers_in(shapes):
    found = []
    for shape in shapes:
        found.extend(variables(shape))
    return found


def check_fixed_parts(solver, parts, barred):
    """Raises NotShaped if the names of an annotation do not stand for different variables of their own."""
    for part in parts:
        if part[0] == "fixed":
            numbers = [solver.number_now(number) for number in part[1]]
            if None in numbers or len({number for number in numbers}) != len(numbers):
                raise NotShaped("an annotation is more general than its rules")
            if any([number in barred for number in numbers]):
                raise NotShaped("a name of an annotation escapes from its rules")
