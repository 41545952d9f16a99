"""Plain trees: their form, their free variables, their size.

Plain trees may be far deeper than the trees of the language, so they are walked with a list of what is still to be
done. Its items are pairs of an action and its subject: an expression or a pattern to be looked at, or names that
begin or cease to be in scope.
"""

from shapewright.integers import is_integer, is_list, is_number
from shapewright.operations import OPERAND_COUNTS

MAX_FAMILY = 12
MAX_ROWS = 12
FAILURES = ("Match", "Bind")


def is_word(value):
    """Whether the value can be the name of a variable, a constructor or an exception, or a label."""
    return isinstance(value, str) and value != ""


def is_pair(value):
    return is_list(value, 2, 2)


def is_family(value):
    if not is_list(value, 1, MAX_FAMILY) or not all([is_pair(part) for part in value]):
        return False
    if not all([is_word(name) and isinstance(has_argument, bool) for name, has_argument in value]):
        return False
    return len({name for name, _ in value}) == len(value)


def is_reference(value):
    """Whether the value is what a packet pattern names: a variable or a field of such an expression."""
    while is_list(value, 3, 3) and value[0] == "field" and is_word(value[1]):
        value = value[2]
    return is_pair(value) and value[0] == "var" and is_word(value[1])


def referred_variable(reference):
    """The name of the variable to which the expression of a packet pattern leads."""
    while reference[0] == "field":
        reference = reference[2]
    return reference[1]


def constructor_parts(tree):
    """The argument of a constructor as a list, or None if the tree has not the form of a constructor."""
    if len(tree) != 4 or not is_family(tree[1]) or not is_number(tree[2]) or tree[2] >= len(tree[1]):
        return None
    if tree[1][tree[2]][1] != (tree[3] is not None):
        return None
    return [] if tree[3] is None else [tree[3]]


def pattern_parts(tree):
    """The patterns directly in a pattern, or None if the value has not the form of a pattern."""
    if not isinstance(tree, tuple) or not tree:
        return None
    tag = tree[0]
    if tag == "con":
        return constructor_parts(tree)
    if tag == "tuple":
        return list(tree[1]) if is_pair(tree) and is_items(tree[1]) else None
    if tag == "as":
        return [tree[2]] if is_list(tree, 3, 3) and is_word(tree[1]) else None
    if tag == "packet":
        if not is_list(tree, 3, 3) or not is_reference(tree[1]):
            return None
        return [] if tree[2] is None else [tree[2]]
    if tag == "var":
        return [] if is_pair(tree) and is_word(tree[1]) else None
    if tag == "int":
        return [] if is_pair(tree) and is_integer(tree[1]) else None
    return [] if tree == ("any",) else None


def is_items(value):
    """Whether the value can hold the items of a tuple."""
    return is_list(value, 0, 6) and len(value) != 1


def patterns_in(pattern):
    """The pattern and all patterns in it, from left to right, outside before inside; None if one has no form."""
    found = []
    waiting = [pattern]
    while waiting:
        part = waiting.pop()
        inner = pattern_parts(part)
        if inner is None:
            return None
        found.append(part)
        waiting.extend(inner[::-1])
    return found


def bound_in(patterns):
    """The variables that these patterns bind themselves."""
    return [pattern[1] for pattern in patterns if pattern[0] in ("var", "as")]


def references_in(patterns):
    return [pattern[1] for pattern in patterns if pattern[0] == "packet"]


def has_pattern_form(value):
    patterns = patterns_in(value)
    if patterns is None:
        return False
    bound = bound_in(patterns)
    return len({name for name in bound}) == len(bound)


def is_pattern(tree, names):
    """Whether the value is a pattern whose packet patterns use only these names."""
    if not has_pattern_form(tree):
        return False
    return all([referred_variable(reference) in names for reference in references_in(patterns_in(tree))])


def pattern_variables(pattern):
    """The variables that a pattern binds, from left to right."""
    return bound_in(patterns_in(pattern))


def looked_at(expressions):
    return [("look", expression) for expression in expressions]


def scoped(names, actions):
    """The actions, while the names are in scope."""
    return [("enter", names), *actions, ("leave", names)]


def rows_actions(rows):
    if not is_list(rows, 1, MAX_ROWS) or not all([is_pair(row) and has_pattern_form(row[0]) for row in rows]):
        return None
    actions = []
    for pattern, expression in rows:
        actions.append(("pattern", pattern))
        actions.extend(scoped(pattern_variables(pattern), looked_at([expression])))
    return actions


def int_actions(tree):
    return [] if is_integer(tree[1]) else None


def var_actions(tree):
    return [("use", tree[1])] if is_word(tree[1]) else None


def fn_actions(tree):
    return scoped([tree[1]], looked_at(tree[2:])) if is_word(tree[1]) else None


def rec_actions(tree):
    functions = tree[1]
    if not is_list(functions, 1, 12) or not all([is_list(function, 3, 3) for function in functions]):
        return None
    if not all([is_word(name) and is_word(parameter) for name, parameter, _ in functions]):
        return None
    names = [name for name, _, _ in functions]
    if len({name for name in names}) != len(names):
        return None
    actions = []
    for _, parameter, body in functions:
        actions.extend(scoped([parameter], looked_at([body])))
    return scoped(names, [*actions, *looked_at(tree[2:])])


def app_actions(tree):
    return looked_at(tree[1:])


def let_actions(tree):
    _, name, bound, body = tree
    return [*looked_at([bound]), *scoped([name], looked_at([body]))] if is_word(name) else None


def tuple_actions(tree):
    return looked_at(tree[1]) if is_items(tree[1]) else None


def record_actions(tree):
    fields = tree[1]
    if not isinstance(fields, tuple) or not all([is_pair(field) and is_word(field[0]) for field in fields]):
        return None
    if len({label for label, _ in fields}) != len(fields):
        return None
    return looked_at([expression for _, expression in fields])


def field_actions(tree):
    return looked_at(tree[2:]) if is_word(tree[1]) else None


def con_actions(tree):
    parts = constructor_parts(tree)
    return None if parts is None else looked_at(parts)


def match_actions(tree):
    actions = rows_actions(tree[2])
    return [*looked_at([tree[1]]), *actions] if actions is not None and tree[3] in FAILURES else None


def handle_actions(tree):
    actions = rows_actions(tree[2])
    return [*looked_at([tree[1]]), *actions] if actions is not None else None


def exception_actions(tree):
    return [] if is_word(tree[1]) else None


def fixed_actions(tree):
    return [] if is_number(tree[1]) and tree[1] < 4 else None


def packet_actions(tree):
    return looked_at([part for part in tree[1:] if part is not None]) if tree[1] is not None else None


def prim_actions(tree):
    name, operands = tree[1:]
    if not is_word(name) or name not in OPERAND_COUNTS or not isinstance(operands, tuple):
        return None
    return looked_at(operands) if len(operands) == OPERAND_COUNTS[name] else None


# For each tag, the length of the expression and what is to be done with its parts, or None if it has no form.
LENGTHS = {
    "int": 2, "var": 2, "fn": 3, "rec": 3, "app": 3, "let": 4, "tuple": 2, "record": 2, "field": 3, "con": 4,
    "match": 4, "raise": 2, "handle": 3, "exception": 2, "fixed": 2, "packet": 3, "prim": 3,
}
ACTIONS = {
    "int": int_actions, "var": var_actions, "fn": fn_actions, "rec": rec_actions, "app": app_actions,
    "let": let_actions, "tuple": tuple_actions, "record": record_actions, "field": field_actions,
    "con": con_actions, "match": match_actions, "raise": app_actions, "handle": handle_actions,
    "exception": exception_actions, "fixed": fixed_actions, "packet": packet_actions, "prim": prim_actions,
}


def actions_for(tree):
    """What is to be done with the parts of an expression, or None if the value has no form of an expression."""
    if not isinstance(tree, tuple) or not tree or not isinstance(tree[0], str) or tree[0] not in LENGTHS:
        return None
    if len(tree) != LENGTHS[tree[0]]:
        return None
    action = ACTIONS[tree[0]]
    return action(tree)


def unbound(tree):
    """The names that are used where they are not bound, as keys; None if the value is no expression."""
    found = {}
    scope = {}
    waiting = [("look", tree)]
    while waiting:
        action, subject = waiting.pop()
        if action == "look":
            actions = actions_for(subject)
            if actions is None:
                return None
            waiting.extend(actions[::-1])
        elif action == "enter":
            for name in subject:
                scope[name] = scope.get(name, 0) + 1
        elif action == "leave":
            for name in subject:
                scope[name] -= 1
        else:
            names = [subject]
            if action == "pattern":
                names = [referred_variable(reference) for reference in references_in(patterns_in(subject))]
            found.update({name: True for name in names if scope.get(name, 0) == 0})
    return found


def is_plain(tree, names):
    """Whether the value is a plain expression whose free variables are among the names."""
    found = unbound(tree)
    return found is not None and all([name in names for name in found])


def free_variables(tree):
    """The free variables of a plain expression in ascending order."""
    return sorted(unbound(tree))


def size(tree):
    """The number of expressions and patterns in a plain expression."""
    count = 0
    waiting = [("look", tree)]
    while waiting:
        action, subject = waiting.pop()
        if action == "look":
            count += 1
            waiting.extend(actions_for(subject))
        elif action == "pattern":
            patterns = patterns_in(subject)
            count += len(patterns)
            waiting.extend(looked_at(references_in(patterns)))
    return count
