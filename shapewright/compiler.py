"""The compiler: plain trees become programs of instructions.

Plain trees may be deeper than the calls of Python can be nested. So a function is compiled with a list of tasks that
are still to be done, the next one last. A spot says where the code of an expression stands: the environment (the
instruction that pushes each variable), the first free slot, and whether it is in tail position. The code of an
expression in tail position leaves its function; otherwise it leaves the value as an operand.
"""

from shapewright.assembly import Assembly
from shapewright.plain import free_variables
from shapewright.rows import bound, value_of
from shapewright.values import FIXED_NAMES

NOTHING = ("tuple", ())


class Maker:
    """The functions of the program, of which the later ones are still to be compiled, and the code of one of them.
    Each function is a tuple of its name, the number of captured values, its environment and its body."""

    def __init__(self, tree):
        self.functions = [("main", 0, None, tree)]
        self.assembly = Assembly()

    def add(self, name, captured, environment, parameter, body):
        """The number of a new function, of which the environment has everything but the parameter."""
        inner = bound(environment, [(parameter, ("slot", 0))])
        self.functions.append((name, len(captured), inner, body))
        return len(self.functions) - 1


def compile_tree(tree):
    """The program of a plain expression without free variables."""
    maker = Maker(tree)
    program = []
    while len(program) < len(maker.functions):
        name, captured, environment, body = maker.functions[len(program)]
        maker.assembly = Assembly()
        if program:
            carry_out([("expression", body, (environment, 1, True))], maker)
        else:
            # The tree itself is the body of no function, so that nothing in it is in tail position.
            carry_out([("emit", ("return",)), ("expression", body, (environment, 1, False))], maker)
        program.append((name, captured, maker.assembly.slots, maker.assembly.finished()))
    return tuple(program)


def carry_out(tasks, maker):
    """Carries out the tasks, the last one first, and those that they leave."""
    while tasks:
        task = tasks.pop()
        if task[0] == "emit":
            maker.assembly.emit(task[1])
        elif task[0] == "mark":
            maker.assembly.mark(task[1])
        elif task[0] == "row":
            tasks.extend(row_tasks(maker.assembly, task)[::-1])
        else:
            tasks.extend(expression_tasks(maker, task[1], task[2])[::-1])


def evaluated(trees, spot):
    """The tasks that leave the values of the expressions as operands."""
    inner = (spot[0], spot[1], False)
    return [("expression", tree, inner) for tree in trees]


def expression_tasks(maker, tree, spot):
    tag = tree[0]
    if tag in BRANCHES:
        branch = BRANCHES[tag]
        return branch(maker, tree, spot)
    action = VALUES[tag]
    tasks = action(maker, tree, spot)
    return [*tasks, ("emit", ("return",))] if spot[2] else tasks


def leaf_tasks(maker, tree, spot):
    return [("emit", tree)]


def var_tasks(maker, tree, spot):
    return pushes([tree[1]], spot)


def pushes(names, spot):
    return [("emit", value_of(spot[0], name)) for name in names]


def captured_environment(names):
    return bound(None, [(name, ("captured", index)) for index, name in enumerate(names)])


def fn_tasks(maker, tree, spot):
    names = free_variables(tree)
    number = maker.add("fn", names, captured_environment(names), tree[1], tree[2])
    return [*pushes(names, spot), ("emit", ("closure", number))]


def tuple_tasks(maker, tree, spot):
    return [*evaluated(tree[1], spot), ("emit", ("tuple", len(tree[1])))]


def record_tasks(maker, tree, spot):
    labels = tuple([label for label, _ in tree[1]])
    return [*evaluated([part for _, part in tree[1]], spot), ("emit", ("record", labels))]


def field_tasks(maker, tree, spot):
    return [*evaluated([tree[2]], spot), ("emit", ("field", tree[1]))]


def con_tasks(maker, tree, spot):
    _, family, index, argument = tree
    name = family[index][0]
    if argument is None:
        return [("emit", ("con", index, name))]
    return [*evaluated([argument], spot), ("emit", ("wrap", index, name))]


def exception_tasks(maker, tree, spot):
    return [("emit", ("new", tree[1]))]


def packet_tasks(maker, tree, spot):
    parts = [part for part in tree[1:] if part is not None]
    return [*evaluated(parts, spot), ("emit", ("packet", len(parts) == 2))]


def prim_tasks(maker, tree, spot):
    return [*evaluated(tree[2], spot), ("emit", ("prim", tree[1]))]


VALUES = {
    "int": leaf_tasks, "fixed": leaf_tasks, "var": var_tasks, "fn": fn_tasks, "tuple": tuple_tasks,
    "record": record_tasks, "field": field_tasks, "con": con_tasks, "exception": exception_tasks,
    "packet": packet_tasks, "prim": prim_tasks,
}


def app_tasks(maker, tree, spot):
    return [*evaluated(tree[1:], spot), ("emit", ("tail" if spot[2] else "call",))]


def raise_tasks(maker, tree, spot):
    return [*evaluated([tree[1]], spot), ("emit", ("raise",))]


def let_tasks(maker, tree, spot):
    _, name, first, body = tree
    environment, free, tail = spot
    maker.assembly.reserve(free + 1)
    inner = bound(environment, [(name, ("slot", free))])
    return [*evaluated([first], spot), ("emit", ("store", free)), ("expression", body, (inner, free + 1, tail))]


def rec_tasks(maker, tree, spot):
    _, functions, body = tree
    environment, free, tail = spot
    maker.assembly.reserve(free + len(functions))
    captured = free_variables(("rec", functions, NOTHING))
    first = len(maker.functions)
    siblings = [(function[0], ("sibling", first + k)) for k, function in enumerate(functions)]
    inner = bound(captured_environment(captured), siblings)
    tasks = []
    for k, (name, parameter, part) in enumerate(functions):
        number = maker.add(name, captured, inner, parameter, part)
        tasks.extend([*pushes(captured, spot), ("emit", ("closure", number)), ("emit", ("store", free + k))])
    outer = bound(environment, [(function[0], ("slot", free + k)) for k, function in enumerate(functions)])
    return [*tasks, ("expression", body, (outer, free + len(functions), tail))]


def match_tasks(maker, tree, spot):
    _, subject, rows, failure = tree
    number = FIXED_NAMES.index(failure)
    failed = [("emit", ("fixed", number)), ("emit", ("packet", False)), ("emit", ("raise",))]
    return [*evaluated([subject], spot), *chosen_tasks(maker.assembly, rows, spot, maker.assembly.new_label(), failed)]


def handle_tasks(maker, tree, spot):
    _, first, rows = tree
    assembly = maker.assembly
    caught, done = assembly.new_label(), assembly.new_label()
    leave = ("return",) if spot[2] else ("jump", done)
    passed = [("emit", ("try", caught)), *evaluated([first], spot), ("emit", ("end",)), ("emit", leave)]
    failed = [("emit", ("slot", spot[1])), ("emit", ("raise",))]
    return [*passed, ("mark", caught), *chosen_tasks(assembly, rows, spot, done, failed)]


def chosen_tasks(assembly, rows, spot, done, failed):
    """The tasks that pop a value, try the rows on it and go on at the label `done`; `failed` comes behind the rows."""
    tasks = [("emit", ("store", spot[1]))]
    for pattern, body in rows:
        after = assembly.new_label()
        tasks.extend([("row", pattern, body, spot, after, done), ("mark", after)])
    return [*tasks, *failed, ("mark", done)]


def row_tasks(assembly, task):
    """Emits the tests of a row; returns the tasks of its expression."""
    _, pattern, body, spot, after, done = task
    environment, free, tail = spot
    bindings, next_free = emit_tests(assembly, pattern, spot, after)
    body_task = ("expression", body, (bound(environment, bindings), next_free, tail))
    return [body_task] if tail else [body_task, ("emit", ("jump", done))]


def emit_tests(assembly, pattern, spot, after):
    """Emits the tests of a pattern on the value in the first free slot, which go on at the label `after` if it does not
    fit. Each part that matters gets a slot of its own, so that the code is no longer than the pattern is large. Returns
    the bindings and the first slot that is free then."""
    bindings = []
    free = spot[1] + 1
    waiting = [(pattern, spot[1])]
    while waiting:
        part, slot = waiting.pop()
        if part[0] in ("var", "as"):
            bindings.append((part[1], ("slot", slot)))
        emit_test(assembly, part, slot, spot, after)
        inner = [(part[2], slot)] if part[0] == "as" else []
        for getter, item in parts_to_get(part):
            assembly.emit(("slot", slot))
            assembly.emit(getter)
            assembly.emit(("store", free))
            inner.append((item, free))
            free += 1
        waiting.extend(inner[::-1])
    assembly.reserve(free)
    return bindings, free


def emit_test(assembly, pattern, slot, spot, after):
    """Emits the test of a pattern itself, without its parts, on the value in the slot."""
    if pattern[0] not in ("int", "con", "packet"):
        return
    assembly.emit(("slot", slot))
    if pattern[0] == "int":
        assembly.emit(("integer", pattern[1], after))
    elif pattern[0] == "con":
        assembly.emit(("constructor", pattern[2], after))
    else:
        emit_reference(assembly, pattern[1], spot)
        assembly.emit(("exception", after))


def emit_reference(assembly, reference, spot):
    """Emits the code that pushes the exception of a packet pattern."""
    labels = []
    while reference[0] == "field":
        labels.append(reference[1])
        reference = reference[2]
    assembly.emit(value_of(spot[0], reference[1]))
    for label in labels[::-1]:
        assembly.emit(("field", label))


def parts_to_get(pattern):
    """The patterns directly in a pattern that say something, each with the instruction that gets its value."""
    parts = []
    if pattern[0] == "tuple":
        parts = [(("part", index), part) for index, part in enumerate(pattern[1])]
    elif pattern[0] in ("con", "packet") and pattern[-1] is not None:
        parts = [(("argument",), pattern[-1])]
    return [(getter, part) for getter, part in parts if part[0] != "any"]


BRANCHES = {
    "app": app_tasks, "raise": raise_tasks, "let": let_tasks, "rec": rec_tasks, "match": match_tasks,
    "handle": handle_tasks,
}
