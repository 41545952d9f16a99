"""What follows a state of the machine that makes small steps: the next state, or the word of what is wrong.

A move takes the whole state. A state that has ended has no move; it is not asked for.
"""

from shapewright.rows import bound, field_of, first_row, value_of
from shapewright.values import FIXED_NAMES, operate


def evaluate(state, expression, environment, stack):
    """The state in which the expression is evaluated, with the store, the exceptions and the output of a state."""
    return ("eval", expression, environment, stack, *state[4:])


def give(state, value, stack):
    return ("back", value, None, stack, *state[4:])


def throw(state, packet, stack):
    return ("throw", packet, None, stack, *state[4:])


def fixed_packet(number):
    return ("packet", number, FIXED_NAMES[number], None)


def group_bound(functions, environment):
    """The environment extended by the functions of a group."""
    found = [(function[0], ("fix", functions, k, environment)) for k, function in enumerate(functions)]
    return bound(environment, found)


def eval_int(state, tree):
    return give(state, tree, state[3])


def eval_fixed(state, tree):
    return give(state, ("exn", tree[1], FIXED_NAMES[tree[1]]), state[3])


def eval_var(state, tree):
    value = value_of(state[2], tree[1])
    return "variable" if value is None else give(state, value, state[3])


def eval_fn(state, tree):
    return give(state, ("fun", tree[1], tree[2], state[2]), state[3])


def eval_rec(state, tree):
    return evaluate(state, tree[2], group_bound(tree[1], state[2]), state[3])


def eval_app(state, tree):
    return evaluate(state, tree[1], state[2], (("argument", tree[2], state[2]), state[3]))


def eval_let(state, tree):
    return evaluate(state, tree[2], state[2], (("let", tree[1], tree[3], state[2]), state[3]))


def eval_tuple(state, tree):
    return begin_items(state, "tuple", None, tree[1])


def eval_record(state, tree):
    labels = tuple([label for label, _ in tree[1]])
    return begin_items(state, "record", labels, tuple([part for _, part in tree[1]]))


def eval_prim(state, tree):
    return begin_items(state, "prim", tree[1], tree[2])


def begin_items(state, kind, extra, items):
    """Begins to evaluate the items from the left; without any, the tuple or the record is given at once."""
    if not items:
        return give(state, (kind, ()), state[3])
    return next_item(state, ("items", kind, extra, (), items, state[2]), state[3])


def next_item(state, frame, stack):
    """Evaluates the first one of the expressions that the frame has left."""
    _, kind, extra, done, rest, environment = frame
    return evaluate(state, rest[0], environment, (("items", kind, extra, done, rest[1:], environment), stack))


def eval_field(state, tree):
    return evaluate(state, tree[2], state[2], (("field", tree[1]), state[3]))


def eval_con(state, tree):
    _, family, index, argument = tree
    if argument is None:
        return give(state, ("con", index, family[index][0], None), state[3])
    return evaluate(state, argument, state[2], (("con", index, family[index][0]), state[3]))


def eval_match(state, tree):
    return evaluate(state, tree[1], state[2], (("match", tree[2], tree[3], state[2]), state[3]))


def eval_raise(state, tree):
    return evaluate(state, tree[1], state[2], (("raise",), state[3]))


def eval_handle(state, tree):
    return evaluate(state, tree[1], state[2], (("handle", tree[2], state[2]), state[3]))


def eval_exception(state, tree):
    _, _, _, stack, store, made, output = state
    return ("back", ("exn", made, tree[1]), None, stack, store, made + 1, output)


def eval_packet(state, tree):
    return evaluate(state, tree[1], state[2], (("packet", tree[2], state[2]), state[3]))


EVALUATIONS = {
    "int": eval_int, "fixed": eval_fixed, "var": eval_var, "fn": eval_fn, "rec": eval_rec, "app": eval_app,
    "let": eval_let, "tuple": eval_tuple, "record": eval_record, "prim": eval_prim, "field": eval_field,
    "con": eval_con, "match": eval_match, "raise": eval_raise, "handle": eval_handle, "exception": eval_exception,
    "packet": eval_packet,
}


def back_argument(state, frame, value, stack):
    return evaluate(state, frame[1], frame[2], (("call", value), stack))


def back_call(state, frame, value, stack):
    function = frame[1]
    if function[0] == "fun":
        _, name, body, environment = function
    elif function[0] == "fix":
        _, functions, k, outer = function
        _, name, body = functions[k]
        environment = group_bound(functions, outer)
    else:
        return "call"
    return evaluate(state, body, (name, value, environment), stack)


def back_let(state, frame, value, stack):
    return evaluate(state, frame[2], (frame[1], value, frame[3]), stack)


def back_items(state, frame, value, stack):
    _, kind, extra, done, rest, environment = frame
    done = (*done, value)
    if rest:
        return next_item(state, ("items", kind, extra, done, rest, environment), stack)
    if kind == "tuple":
        return give(state, ("tuple", done), stack)
    if kind == "record":
        return give(state, ("record", tuple(zip(extra, done))), stack)
    return finish_operation(state, extra, done, stack)


def finish_operation(state, name, operands, stack):
    word, result, store, printed = operate(name, list(operands), state[4])
    if word == "stuck":
        return result
    mode = "back" if word == "give" else "throw"
    return (mode, result, None, stack, store, state[5], (*state[6], *printed) if printed else state[6])


def back_field(state, frame, value, stack):
    part = field_of(value, frame[1])
    return "field" if part is None else give(state, part, stack)


def back_con(state, frame, value, stack):
    return give(state, (*frame, value), stack)


def back_match(state, frame, value, stack):
    _, rows, failure, environment = frame
    chosen = first_row(rows, value, environment)
    if isinstance(chosen, str):
        return chosen
    if chosen is None:
        return throw(state, fixed_packet(FIXED_NAMES.index(failure)), stack)
    return evaluate(state, chosen[0], chosen[1], stack)


def back_handle(state, frame, value, stack):
    return give(state, value, stack)


def back_raise(state, frame, value, stack):
    return throw(state, value, stack) if value[0] == "packet" else "raise"


def back_packet(state, frame, value, stack):
    _, argument, environment = frame
    if value[0] != "exn":
        return "packet"
    if argument is None:
        return give(state, ("packet", value[1], value[2], None), stack)
    return evaluate(state, argument, environment, (("made", value), stack))


def back_made(state, frame, value, stack):
    exception = frame[1]
    return give(state, ("packet", exception[1], exception[2], value), stack)


RETURNS = {
    "argument": back_argument, "call": back_call, "let": back_let, "items": back_items, "field": back_field,
    "con": back_con, "match": back_match, "handle": back_handle, "raise": back_raise, "packet": back_packet,
    "made": back_made,
}


def thrown(state):
    """The move of a state that raises a packet."""
    packet = state[1]
    frame, stack = state[3]
    if frame[0] == "handle":
        chosen = first_row(frame[1], packet, frame[2])
        if isinstance(chosen, str):
            return chosen
        if chosen is not None:
            return evaluate(state, chosen[0], chosen[1], stack)
    return throw(state, packet, stack)


def has_ended(state):
    return state[3] is None and state[0] != "eval"


def moved(state):
    """The next state, or the word of what is wrong, of a state that has not ended."""
    if state[0] == "eval":
        tree = state[1]
        evaluation = EVALUATIONS[tree[0]]
        return evaluation(state, tree)
    if state[0] == "throw":
        return thrown(state)
    frame, stack = state[3]
    action = RETURNS[frame[0]]
    return action(state, frame, state[1], stack)
