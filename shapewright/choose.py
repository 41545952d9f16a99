"""Decision graphs: which row a value chooses, by one test after the other."""

from shapewright.matrix import names_exception


def decision_graph(rows):
    """The tests of each row from left to right; each goes on at the next row if it does not hold."""
    nodes = []
    for k, row in enumerate(rows):
        tests, bindings = tests_and_bindings(row)
        after = len(nodes) + len(tests) + 1
        for test in tests:
            nodes.append((*test, len(nodes) + 1, after))
        nodes.append(("leaf", k, tuple(bindings)))
        if not tests:
            # Every value fits this row, so that nothing goes on behind it.
            return tuple(nodes)
    return (*nodes, ("fail",))


def tests_and_bindings(pattern):
    """The tests of a pattern, outside before inside, and the places of its variables."""
    tests = []
    bindings = []
    waiting = [(pattern, ())]
    while waiting:
        part, place = waiting.pop()
        tag = part[0]
        if tag in ("var", "as"):
            bindings.append((part[1], place))
        if tag == "int":
            tests.append(("integer", place, part[1]))
        elif tag == "con":
            tests.append(("constructor", place, part[2]))
        elif tag == "packet":
            tests.append(("exception", place, part[1]))
        waiting.extend(places_inside(part, place)[::-1])
    return tests, bindings


def places_inside(pattern, place):
    """The patterns directly in a pattern, each with its place."""
    tag = pattern[0]
    if tag == "as":
        return [(pattern[2], place)]
    if tag == "tuple":
        return [(part, (*place, index)) for index, part in enumerate(pattern[1])]
    if tag in ("con", "packet") and pattern[-1] is not None:
        return [(pattern[-1], (*place, "argument"))]
    return []


TAGS = {"constructor": "con", "integer": "int", "exception": "packet"}


def choose(graph, value, numbers):
    """The row that a value chooses, with its bindings, or None."""
    node = graph[0]
    while node[0] not in ("leaf", "fail"):
        node = graph[node[3] if holds(node, part_at(value, node[1]), numbers) else node[4]]
    if node[0] == "fail":
        return None
    return node[1], [(name, part_at(value, place)) for name, place in node[2]]


def holds(node, part, numbers):
    """Whether the test of a node holds for the part of the value at its place."""
    if part is None or part[0] != TAGS[node[0]]:
        return False
    if node[0] == "exception":
        return names_exception(node[2], part[1], numbers)
    return part[1] == node[2]


def part_at(value, place):
    """The part of a value at a place: an item of a tuple, or the argument of a constructor or a packet. It is None
    if the value is of another kind and has no such part."""
    for step in place:
        tag = None if value is None else value[0]
        if step == "argument":
            value = value[3] if tag in ("con", "packet") else None
        else:
            value = value[1][step] if tag == "tuple" and step < len(value[1]) else None
    return value
