"""Reading expressions and local declarations."""

from shapewright.errors import BadText
from shapewright.lexicon import INFIX
from shapewright.pattern_reader import take_name, take_pattern
from shapewright.shape_reader import take_alias, take_exception, take_scheme, take_shape

# How tightly the signs between two calls bind.
TIGHTNESS = {
    "orelse": 1, "andalso": 2, ":=": 3,
    "=": 4, "<>": 4, "<": 4, "<=": 4, ">": 4, ">=": 4,
    "::": 5, "@": 5, "+": 6, "-": 6, "*": 7, "div": 7, "mod": 7,
}
TO_THE_RIGHT = ("orelse", "andalso", "::", "@")
ATOM_SIGNS = ("NUMBER", "SMALL", "CAPITAL", "~", "!", "(", "let")
LOCAL_SIGNS = ("val", "rec", "alias", "exception")


def take_expression(cursor):
    if cursor.passes("fn"):
        return ("fn", take_rules(cursor))
    if cursor.passes("raise"):
        return ("raise", take_expression(cursor))
    if cursor.passes("if"):
        return take_choice(cursor)
    if cursor.passes("case"):
        subject = take_expression(cursor)
        cursor.expect("of")
        return ("case", subject, take_rules(cursor))
    expression = take_operation(cursor)
    while cursor.passes(":"):
        expression = ("has", expression, take_shape(cursor))
    if cursor.passes("handle"):
        return ("handle", expression, take_rules(cursor))
    return expression


def take_rules(cursor):
    rules = [take_rule(cursor)]
    while cursor.passes("|"):
        rules.append(take_rule(cursor))
    return tuple(rules)


def take_rule(cursor):
    pattern = take_pattern(cursor)
    cursor.expect("=>")
    return pattern, take_expression(cursor)


def take_choice(cursor):
    """The rest of an `if`."""
    test = take_expression(cursor)
    cursor.expect("then")
    yes = take_expression(cursor)
    cursor.expect("else")
    return choice(test, yes, take_expression(cursor))


def choice(test, yes, no):
    return ("case", test, ((("pcon", ("True",), None), yes), (("pcon", ("False",), None), no)))


def take_operation(cursor):
    """Calls with the signs between them. A stack of signs stands for recursion, as chains can be long."""
    operands = [take_call(cursor)]
    signs = []
    while cursor.sign() in TIGHTNESS:
        sign = cursor.take()
        while signs and comes_first(signs[-1], sign):
            join_last(operands, signs.pop())
        signs.append(sign)
        operands.append(take_call(cursor))
    while signs:
        join_last(operands, signs.pop())
    return operands[0]


def comes_first(left, right):
    """Whether of two signs the left one takes the operand between them."""
    if TIGHTNESS[left] == TIGHTNESS[right]:
        return left not in TO_THE_RIGHT
    return TIGHTNESS[left] > TIGHTNESS[right]


def join_last(operands, sign):
    """Puts the last two operands together."""
    second = operands.pop()
    first = operands.pop()
    operands.append(joined(sign, first, second))


def joined(sign, first, second):
    if sign == "andalso":
        return choice(first, second, ("con", ("False",)))
    if sign == "orelse":
        return choice(first, ("con", ("True",)), second)
    function = ("con", ("Cons",)) if sign == "::" else ("var", (sign,))
    return ("app", function, ("tuple", (first, second)))


def take_call(cursor):
    expression = take_atom(cursor)
    while cursor.sign() in ATOM_SIGNS:
        expression = ("app", expression, take_atom(cursor))
    return expression


def take_atom(cursor):
    sign = cursor.sign()
    if sign == "NUMBER":
        return ("int", cursor.take())
    if sign in ("SMALL", "~", "!"):
        return ("var", (cursor.take(),))
    if sign == "CAPITAL":
        return take_long_name(cursor)
    if sign == "let":
        return take_let(cursor)
    if sign == "(":
        return take_in_parentheses(cursor)
    raise BadText(cursor.position())


def take_long_name(cursor):
    names = [cursor.take()]
    while cursor.passes("."):
        if cursor.sign() != "CAPITAL":
            return ("var", (*names, take_name(cursor)))
        names.append(cursor.take())
    return ("con", tuple(names))


def take_let(cursor):
    cursor.expect("let")
    declarations = [take_local(cursor)]
    while cursor.sign() in LOCAL_SIGNS:
        declarations.append(take_local(cursor))
    cursor.expect("in")
    body = take_expression(cursor)
    cursor.expect("end")
    return ("let", tuple(declarations), body)


def take_in_parentheses(cursor):
    if cursor.second_sign() in INFIX:
        return ("var", (take_name(cursor),))
    cursor.expect("(")
    if cursor.passes(")"):
        return ("unit",)
    expressions = [take_expression(cursor)]
    separator = cursor.sign()
    if separator in (",", ";"):
        while cursor.passes(separator):
            expressions.append(take_expression(cursor))
    cursor.expect(")")
    if separator == ";":
        return sequence(expressions)
    return expressions[0] if len(expressions) == 1 else ("tuple", tuple(expressions))


def sequence(expressions):
    """One expression after the other; the value is that of the last one."""
    result = expressions[-1]
    for expression in reversed(expressions[:-1]):
        result = ("case", expression, ((("pany",), result),))
    return result


def take_local(cursor):
    sign = cursor.sign()
    if sign == "alias":
        return take_alias(cursor)
    if sign == "exception":
        return take_exception(cursor)
    if sign == "rec":
        return take_rec(cursor)
    cursor.expect("val")
    pattern = take_pattern(cursor)
    cursor.expect("=")
    return ("val", pattern, take_expression(cursor))


def take_rec(cursor):
    cursor.expect("rec")
    bindings = [take_binding(cursor)]
    while cursor.passes("and"):
        bindings.append(take_binding(cursor))
    return ("rec", tuple(bindings))


def take_binding(cursor):
    name = take_name(cursor)
    annotation = take_scheme(cursor) if cursor.passes(":") else None
    cursor.expect("=")
    cursor.expect("fn")
    return name, annotation, take_rules(cursor)
