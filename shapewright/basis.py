"""The initial basis: the context in which programs are checked, and the plain trees of its values."""

from shapewright.terms import ARITIES, BOOL, EXN, INT, UNIT

BOOLS = (("False", False), ("True", False))
LISTS = (("Nil", False), ("Cons", True))
OPTIONS = (("None", False), ("Some", True))
ORDERS = (("Less", False), ("Equal", False), ("Greater", False))

GENERAL = ("v", 0)
REF_SHAPE = ("c", 3, (GENERAL,))
LIST_SHAPE = ("c", 5, (GENERAL,))
OPTION_SHAPE = ("c", 6, (GENERAL,))
ORDER_SHAPE = ("c", 7, ())
ARITHMETIC = (0, ("f", ("t", (INT, INT)), INT))
COMPARISON = (0, ("f", ("t", (INT, INT)), BOOL))
EQUALITY = (1, ("f", ("t", (GENERAL, GENERAL)), BOOL))

ENTRIES = (
    ("shape", "int", 0, INT),
    ("shape", "unit", 0, UNIT),
    ("shape", "exn", 0, EXN),
    ("shape", "ref", 1, REF_SHAPE),
    ("shape", "bool", 0, BOOL),
    ("shape", "list", 1, LIST_SHAPE),
    ("shape", "option", 1, OPTION_SHAPE),
    ("shape", "order", 0, ORDER_SHAPE),
    ("con", "False", 0, None, BOOL, 0, BOOLS),
    ("con", "True", 0, None, BOOL, 1, BOOLS),
    ("con", "Nil", 1, None, LIST_SHAPE, 0, LISTS),
    ("con", "Cons", 1, ("t", (GENERAL, LIST_SHAPE)), LIST_SHAPE, 1, LISTS),
    ("con", "None", 1, None, OPTION_SHAPE, 0, OPTIONS),
    ("con", "Some", 1, GENERAL, OPTION_SHAPE, 1, OPTIONS),
    ("con", "Less", 0, None, ORDER_SHAPE, 0, ORDERS),
    ("con", "Equal", 0, None, ORDER_SHAPE, 1, ORDERS),
    ("con", "Greater", 0, None, ORDER_SHAPE, 2, ORDERS),
    ("exn", "Match", None),
    ("exn", "Bind", None),
    ("exn", "Div", None),
    ("exn", "Equality", None),
    ("val", "+", ARITHMETIC),
    ("val", "-", ARITHMETIC),
    ("val", "*", ARITHMETIC),
    ("val", "div", ARITHMETIC),
    ("val", "mod", ARITHMETIC),
    ("val", "<", COMPARISON),
    ("val", "<=", COMPARISON),
    ("val", ">", COMPARISON),
    ("val", ">=", COMPARISON),
    ("val", "=", EQUALITY),
    ("val", "<>", EQUALITY),
    ("val", "~", (0, ("f", INT, INT))),
    ("val", "ref", (1, ("f", GENERAL, REF_SHAPE))),
    ("val", "!", (1, ("f", REF_SHAPE, GENERAL))),
    ("val", ":=", (1, ("f", ("t", (REF_SHAPE, GENERAL)), UNIT))),
    ("val", "print", (0, ("f", INT, UNIT))),
    ("val", "not", (0, ("f", BOOL, BOOL))),
    ("val", "@", (1, ("f", ("t", (LIST_SHAPE, LIST_SHAPE)), LIST_SHAPE))),
)
BASIS = (ENTRIES, ARITIES)

# The functions of a pair name its items `a` and `b`; patterns and expressions of these look alike.
A = ("var", "a")
B = ("var", "b")
PAIR = ("tuple", (A, B))
OPPOSITE = ((("con", BOOLS, 0, None), ("con", BOOLS, 1, None)), (("con", BOOLS, 1, None), ("con", BOOLS, 0, None)))
# The elements of the first list are put before the second one, the last one first.
REST = ("app", ("var", "@"), ("tuple", (("var", "rest"), B)))
NO_ELEMENT = (("tuple", (("con", LISTS, 0, None), B)), B)
ONE_ELEMENT = (
    ("tuple", (("con", LISTS, 1, ("tuple", (A, ("var", "rest")))), B)),
    ("con", LISTS, 1, ("tuple", (A, REST))),
)
APPEND = ("match", ("var", "lists"), (NO_ELEMENT, ONE_ELEMENT), "Match")

BASIS_LOWERED = (
    ("let", "exn Match", ("fixed", 0)),
    ("let", "exn Bind", ("fixed", 1)),
    ("let", "exn Div", ("fixed", 2)),
    ("let", "exn Equality", ("fixed", 3)),
    ("let", "+", ("fn", "c", ("match", ("var", "c"), ((PAIR, ("prim", "add", (A, B))),), "Match"))),
    ("let", "-", ("fn", "c", ("match", ("var", "c"), ((PAIR, ("prim", "sub", (A, B))),), "Match"))),
    ("let", "*", ("fn", "c", ("match", ("var", "c"), ((PAIR, ("prim", "mul", (A, B))),), "Match"))),
    ("let", "div", ("fn", "c", ("match", ("var", "c"), ((PAIR, ("prim", "div", (A, B))),), "Match"))),
    ("let", "mod", ("fn", "c", ("match", ("var", "c"), ((PAIR, ("prim", "mod", (A, B))),), "Match"))),
    ("let", "<", ("fn", "c", ("match", ("var", "c"), ((PAIR, ("prim", "less", (A, B))),), "Match"))),
    ("let", "<=", ("fn", "c", ("match", ("var", "c"), ((PAIR, ("prim", "leq", (A, B))),), "Match"))),
    ("let", ">", ("fn", "c", ("match", ("var", "c"), ((PAIR, ("prim", "less", (B, A))),), "Match"))),
    ("let", ">=", ("fn", "c", ("match", ("var", "c"), ((PAIR, ("prim", "leq", (B, A))),), "Match"))),
    ("let", "=", ("fn", "c", ("match", ("var", "c"), ((PAIR, ("prim", "equal", (A, B))),), "Match"))),
    ("let", "<>", ("fn", "c", ("match", ("var", "c"), (
        (PAIR, ("match", ("prim", "equal", (A, B)), OPPOSITE, "Match")),
    ), "Match"))),
    ("let", "~", ("fn", "a", ("prim", "neg", (A,)))),
    ("let", "ref", ("fn", "a", ("prim", "ref", (A,)))),
    ("let", "!", ("fn", "a", ("prim", "fetch", (A,)))),
    ("let", ":=", ("fn", "c", ("match", ("var", "c"), ((PAIR, ("prim", "assign", (A, B))),), "Match"))),
    ("let", "print", ("fn", "a", ("prim", "print", (A,)))),
    ("let", "not", ("fn", "a", ("match", A, OPPOSITE, "Match"))),
    ("let", "@", ("rec", (("@", "lists", APPEND),), ("var", "@"))),
)
