"""Short ways to write shapes in the tests."""

FREE = 1000000


def free(k):
    """The free variable with the number k, counted from the first one."""
    return ("v", FREE + k)


def fun(first, second):
    return ("f", first, second)


def pair(first, second):
    return ("t", (first, second))


def ref(shape):
    return ("c", 3, (shape,))


def listed(shape):
    return ("c", 5, (shape,))


def towers(levels, inside):
    """A shape that is `levels` deep around the inside."""
    for _ in range(levels):
        inside = listed(inside)
    return inside


def wide(count, leaf):
    """A shape with this size that is not deep."""
    if count == 1:
        return leaf
    if count == 2:
        return listed(leaf)
    parts = min(6, count - 1)
    rest = count - 1
    return ("t", tuple(wide(rest // parts + (1 if k < rest % parts else 0), leaf) for k in range(parts)))
