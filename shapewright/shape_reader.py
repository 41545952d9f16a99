"""Reading shapes, schemes and parameters."""


def take_shape(cursor):
    parts = [take_product(cursor)]
    while cursor.passes("->"):
        parts.append(take_product(cursor))
    shape = parts.pop()
    while parts:
        shape = ("sarrow", parts.pop(), shape)
    return shape


def take_product(cursor):
    parts = [take_applied_shape(cursor)]
    while cursor.passes("*"):
        parts.append(take_applied_shape(cursor))
    return parts[0] if len(parts) == 1 else ("stuple", tuple(parts))


def take_applied_shape(cursor):
    """A shape and all names that are applied to it."""
    sign = cursor.sign()
    if sign == "TICK":
        shape = ("svar", cursor.take())
    elif sign == "(":
        shape = take_shape_in_parentheses(cursor)
    else:
        shape = ("sname", take_shape_path(cursor), ())
    while cursor.sign() in ("SMALL", "CAPITAL"):
        shape = ("sname", take_shape_path(cursor), (shape,))
    return shape


def take_shape_in_parentheses(cursor):
    cursor.expect("(")
    shapes = [take_shape(cursor)]
    while cursor.passes(","):
        shapes.append(take_shape(cursor))
    cursor.expect(")")
    if len(shapes) == 1:
        return shapes[0]
    return ("sname", take_shape_path(cursor), tuple(shapes))


def take_shape_path(cursor):
    names = take_modules(cursor)
    names.append(cursor.expect("SMALL"))
    return tuple(names)


def take_modules(cursor):
    """The names of modules, each with its dot, that stand before the last name of a path to a shape."""
    names = []
    while cursor.sign() == "CAPITAL":
        names.append(cursor.take())
        cursor.expect(".")
    return names


def take_capital_path(cursor):
    names = [cursor.expect("CAPITAL")]
    while cursor.passes("."):
        names.append(cursor.expect("CAPITAL"))
    return tuple(names)


def take_scheme(cursor):
    names = []
    if cursor.passes("all"):
        names.append(cursor.expect("TICK"))
        while cursor.sign() == "TICK":
            names.append(cursor.take())
        cursor.expect(".")
    return tuple(names), take_shape(cursor)


def take_parameters(cursor):
    if cursor.sign() == "TICK":
        return (cursor.take(),)
    if not cursor.passes("("):
        return ()
    names = [cursor.expect("TICK")]
    while cursor.passes(","):
        names.append(cursor.expect("TICK"))
    cursor.expect(")")
    return tuple(names)


def take_alias(cursor):
    cursor.expect("alias")
    names = take_parameters(cursor)
    name = cursor.expect("SMALL")
    cursor.expect("=")
    return ("alias", names, name, take_shape(cursor))


def take_exception(cursor):
    cursor.expect("exception")
    name, shape = take_constructor(cursor)
    return ("exception", name, shape)


def take_constructor(cursor):
    name = cursor.expect("CAPITAL")
    shape = take_shape(cursor) if cursor.passes("of") else None
    return name, shape


def take_variant(cursor):
    cursor.expect("variant")
    group = [take_element(cursor)]
    while cursor.passes("and"):
        group.append(take_element(cursor))
    return ("variant", tuple(group))


def take_element(cursor):
    names = take_parameters(cursor)
    name = cursor.expect("SMALL")
    cursor.expect("=")
    constructors = [take_constructor(cursor)]
    while cursor.passes("|"):
        constructors.append(take_constructor(cursor))
    return names, name, tuple(constructors)
