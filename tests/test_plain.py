"""Plain trees: points 5.1 to 5.5."""

import copy
import unittest

from shapewright.plain import free_variables, is_pattern, is_plain, pattern_variables, size

BOOL = (("False", False), ("True", False))
OPTION = (("None", False), ("Some", True))
X, Y = ("var", "x"), ("var", "y")
ONE = ("int", 1)
GREATEST, LEAST = 2147483647, -2147483648
EXN = ("field", "exn E", ("field", "mod T", ("var", "mod S")))
TWELVE = tuple((f"C{k}", k % 2 == 1) for k in range(12))
OPERATIONS = {"add": 2, "sub": 2, "mul": 2, "div": 2, "mod": 2, "neg": 1, "less": 2, "leq": 2, "equal": 2, "ref": 1, "fetch": 1, "assign": 2, "print": 1}

CLOSED = [
    ("int", 0), ("int", GREATEST), ("int", LEAST), ("fn", "x", X), ("fn", "arg -", ("var", "arg -")), ("rec", (("f", "x", ("app", ("var", "f"), X)),), ("var", "f")),
    ("rec", tuple((f"f{k}", "x", ("var", "f11")) for k in range(12)), ("var", "f0")), ("rec", (("f", "f", ("var", "f")),), ONE), ("app", ONE, ONE), ("let", "x", ONE, X), ("tuple", ()), ("tuple", (ONE, ONE)),
    ("tuple", (ONE,) * 6), ("record", ()), ("record", (("a", ONE),)), ("record", tuple((f"l{k}", ONE) for k in range(40))), ("field", "val x", ("record", ())), ("con", BOOL, 0, None), ("con", OPTION, 1, ONE),
    ("con", TWELVE, 11, ONE), ("match", ONE, ((("any",), ONE),), "Match"), ("match", ONE, ((("var", "x"), X),) * 12, "Bind"), ("raise", ONE), ("handle", ONE, ((("var", "x"), X), (("any",), ONE))),
    ("exception", "E"), ("fixed", 0), ("fixed", 3), ("packet", ONE, None), ("packet", ("fixed", 0), ONE), *[("prim", name, (ONE,) * count) for name, count in OPERATIONS.items()],
]
PATTERNS = [
    ("any",), ("var", "x"), ("int", 0), ("int", GREATEST), ("int", LEAST), ("tuple", ()), ("tuple", (("var", "x"), ("var", "y"))), ("tuple", (("any",),) * 6), ("con", BOOL, 1, None),
    ("con", OPTION, 1, ("any",)), ("con", (("C", True),), 0, ("con", TWELVE, 3, ("any",))), ("packet", X, None), ("packet", EXN, ("var", "z")), ("as", "x", ("any",)), ("as", "x", ("as", "y", ("var", "z"))),
]
USED = ["x", "mod S"]

NOT_FAMILIES = [
    (), (("A", True), ("A", False)), (("A", 1),), (("", True),), (("A",),), (("A", True, True),), ("A", True), [("A", True)], tuple((f"C{k}", True) for k in range(13)), None, 0, "AB", ((0, True),), (("A", None),),
]
NOT_NAMES = ["", 0, None, True, ("x",), ()]
NOT_INTEGERS = [True, False, None, "1", GREATEST + 1, LEAST - 1, (1,), ()]
BROKEN_PATTERNS = [
    None, 0, "any", (), ("any", 1), ("any", "x"), ("nothing",), (0,), (("any",),), [("any",)], ("var",), ("var", "x", "y"), ("int",), ("int", 1, 2), ("tuple", (("any",),)), ("tuple", (("any",),) * 7), ("tuple", [("any",), ("any",)]),
    ("tuple", "ab"), ("tuple", (("any",), None)), ("tuple",), ("tuple", ("any",), ("any",)), ("con", BOOL, 0), ("con", BOOL, 0, ("any",)), ("con", BOOL, 2, None), ("con", BOOL, -1, None), ("con", BOOL, True, None), ("con", BOOL, "0", None),
    ("con", OPTION, 1, None), ("con", OPTION, 1, ("any",), ("any",)), ("con", OPTION, 1, 5), ("packet", X), ("packet", X, None, None), ("packet", ONE, None), ("packet", ("app", X, X), None), ("packet", None, None),
    ("packet", ("field", "", X), None), ("packet", ("field", "a", ONE), None), ("packet", ("field", "a"), None), ("packet", ("var", ""), None), ("packet", ("var",), None), ("packet", X, 5), ("packet", X, ("none",)), ("as", "x"),
    ("as", "x", ("any",), ("any",)), ("as", "x", None), ("as", "x", ("var", "x")), ("tuple", (("var", "x"), ("var", "x"))), ("tuple", (("as", "x", ("any",)), ("con", OPTION, 1, ("var", "x")))), ("packet", X, ("as", "z", ("var", "z"))),
    ("record", ()), ("fn", "x", X), ("con", 0, 0, None), ("con", OPTION, 1, ("nothing",)),
    *[("var", name) for name in NOT_NAMES], *[("as", name, ("any",)) for name in NOT_NAMES], *[("int", n) for n in NOT_INTEGERS], *[("con", family, 0, None) for family in NOT_FAMILIES], *[("con", family, 0, ("any",)) for family in NOT_FAMILIES],
]
ROW = (("any",), ONE)
BROKEN = [
    None, 0, "int", True, (), ("any",), ("int",), ("int", 1, 1), ("var",), ("var", "x", "x"), ("fn", "x"), ("fn", "x", X, X), ("fn", ("x",), X), ("rec", (), ONE), ("rec", (("f", "x", X),)), ("rec", (("f", "x"),), ONE), ("rec", (("f", "x", X, X),), ONE),
    ("rec", (("f", "x", X), ("f", "y", Y)), ONE), ("rec", tuple((f"f{k}", "x", X) for k in range(13)), ONE), ("rec", [("f", "x", X)], ONE), ("rec", (["f", "x", X],), ONE), ("rec", (("f", "x", None),), ONE), ("rec", (("f", "x", X),), None),
    ("app", ONE), ("app", ONE, ONE, ONE), ("app", ONE, None), ("let", "x", ONE), ("let", "x", ONE, X, X), ("let", "x", None, ONE), ("let", "x", ONE, None), ("tuple",), ("tuple", (ONE,)), ("tuple", (ONE,) * 7), ("tuple", [ONE, ONE]), ("tuple", (ONE, 1)), ("tuple", ONE, ONE),
    ("record",), ("record", [("a", ONE)]), ("record", (("a", ONE), ("a", ONE))), ("record", (("a",),)), ("record", (("a", ONE, ONE),)), ("record", ("ab",)), ("record", (("a", 1),)), ("field", "a"), ("field", "a", ONE, ONE), ("field", "a", 1),
    ("con", BOOL, 0), ("con", BOOL, 0, ONE), ("con", BOOL, 2, None), ("con", BOOL, -1, None), ("con", BOOL, False, None), ("con", OPTION, 1, None), ("con", OPTION, 1, 5), ("con", OPTION, 1, ONE, ONE),
    ("match", ONE, (ROW,)), ("match", ONE, (ROW,), "Div"), ("match", ONE, (ROW,), None), ("match", ONE, (), "Match"), ("match", ONE, (ROW,) * 13, "Match"), ("match", ONE, [ROW], "Match"), ("match", None, (ROW,), "Match"), ("match", ONE, (("any",),), "Match"),
    ("match", ONE, ((("any",), ONE, ONE),), "Match"), ("match", ONE, ((ONE,),), "Match"), ("match", ONE, (ROW,), "Match", "Match"), ("match", ONE, ((("any",), None),), "Match"), ("match", ONE, (ROW,), ("Match",)),
    ("handle", ONE), ("handle", ONE, ()), ("handle", ONE, (ROW,) * 13), ("handle", ONE, (ROW,), "Match"), ("handle", None, (ROW,)), ("handle", ONE, ((("any",), 1),)), ("raise",), ("raise", ONE, ONE), ("raise", None), ("exception",), ("exception", "E", None),
    ("fixed",), ("fixed", 4), ("fixed", -1), ("fixed", True), ("fixed", "0"), ("fixed", 0, 0), ("packet", ONE), ("packet", None, None), ("packet", ONE, 1), ("packet", ONE, ONE, ONE), ("prim", "add"), ("prim", "add", (ONE,)), ("prim", "add", (ONE,) * 3),
    ("prim", "neg", ONE), ("prim", "neg", (ONE, ONE)), ("prim", "neg", [ONE]), ("prim", "neg", (1,)), ("prim", "pow", (ONE, ONE)), ("prim", "", ()), ("prim", 0, ()), ("prim", ("neg",), (ONE,)), ("prim", "print", ()), ("as", "x", ONE), ("unknown", ONE), (("int", 1),), (1, 2),
    *[("int", n) for n in NOT_INTEGERS], *[("var", name) for name in NOT_NAMES], *[("fn", name, ONE) for name in NOT_NAMES], *[("let", name, ONE, ONE) for name in NOT_NAMES], *[("rec", ((name, "x", ONE),), ONE) for name in NOT_NAMES],
    *[("rec", (("f", name, ONE),), ONE) for name in NOT_NAMES], *[("record", ((name, ONE),)) for name in NOT_NAMES], *[("field", name, ONE) for name in NOT_NAMES], *[("exception", name) for name in NOT_NAMES],
    *[("con", family, 0, part) for family in NOT_FAMILIES for part in (None, ONE)], *[("match", ONE, ((pattern, ONE),), "Match") for pattern in BROKEN_PATTERNS], *[("handle", ONE, ((pattern, ONE),)) for pattern in BROKEN_PATTERNS],
]


def around(tree):
    """Expressions in which a tree stands at each place where an expression can stand."""
    return [
        ("fn", "y", tree), ("rec", (("g", "y", tree),), ONE), ("rec", (("g", "y", ONE), ("h", "y", tree)), ONE), ("rec", (("g", "y", ONE),), tree), ("app", tree, ONE), ("app", ONE, tree), ("let", "y", tree, ONE), ("let", "y", ONE, tree),
        ("tuple", (tree, ONE)), ("tuple", (ONE, ONE, tree)), ("record", (("a", tree),)), ("record", (("a", ONE), ("b", tree))), ("field", "a", tree), ("con", OPTION, 1, tree), ("match", tree, (ROW,), "Match"), ("match", ONE, ((("any",), tree),), "Match"),
        ("match", ONE, (ROW, (("any",), tree)), "Bind"), ("raise", tree), ("handle", tree, (ROW,)), ("handle", ONE, (ROW, (("any",), tree))), ("packet", tree, None), ("packet", tree, ONE), ("packet", ONE, tree), ("prim", "neg", (tree,)), ("prim", "add", (ONE, tree)),
    ]


class Forms(unittest.TestCase):
    def test_closed_expressions(self):
        for tree in CLOSED:
            self.assertIs(is_plain(tree, []), True, tree)
            self.assertEqual(free_variables(tree), [])
            for whole in around(tree):
                self.assertIs(is_plain(whole, []), True, whole)

    def test_broken_expressions(self):
        for tree in BROKEN:
            self.assertIs(is_plain(tree, ["x", "y", *NOT_NAMES]), False, tree)
            for whole in around(tree):
                if whole != ("packet", ONE, None):
                    self.assertIs(is_plain(whole, ["x", "y"]), False, whole)

    def test_patterns(self):
        for pattern in PATTERNS:
            self.assertIs(is_pattern(pattern, USED), True, pattern)
            self.assertIs(is_plain(("match", ONE, ((pattern, ONE),), "Match"), USED), True, pattern)
            for whole in (("tuple", (("any",), pattern)), ("con", OPTION, 1, pattern), ("packet", ("var", "x"), pattern), ("as", "w", pattern)):
                self.assertIs(is_pattern(whole, USED), True, whole)

    def test_broken_patterns(self):
        for pattern in BROKEN_PATTERNS:
            self.assertIs(is_pattern(pattern, ["x", *NOT_NAMES]), False, pattern)
            for whole in (("tuple", (("any",), pattern)), ("con", OPTION, 1, pattern), ("packet", ("var", "x"), pattern), ("as", "w", pattern)):
                if pattern is not None or whole[0] != "packet":
                    self.assertIs(is_pattern(whole, ["x"]), False, whole)

    def test_names_of_packet_patterns(self):
        pattern = ("tuple", (("packet", X, ("var", "y")), ("packet", EXN, None)))
        self.assertTrue(is_pattern(pattern, ["mod S", "x"]))
        self.assertFalse(is_pattern(pattern, ["mod S"]))
        self.assertFalse(is_pattern(pattern, ["x", "y", "mod T", "exn E"]))
        self.assertFalse(is_pattern(("tuple", (("var", "x"), ("packet", X, None))), []))
        self.assertTrue(is_pattern(("tuple", (("var", "x"), ("packet", X, None))), ["x"]))

    def test_variables_of_a_pattern(self):
        pattern = ("as", "a", ("tuple", (("var", "c"), ("con", OPTION, 1, ("as", "b", ("var", "z"))), ("packet", X, ("var", "y")), ("any",), ("int", 3))))
        self.assertEqual(pattern_variables(pattern), ["a", "c", "b", "z", "y"])
        self.assertEqual(pattern_variables(("any",)), [])


class Scopes(unittest.TestCase):
    def test_free_variables(self):
        def var(name):
            return ("var", name)

        rows = [
            (X, ["x"]), (("app", Y, X), ["x", "y"]), (("tuple", (Y, X, Y, var("B"), var("a"))), ["B", "a", "x", "y"]), (("fn", "x", ("app", X, Y)), ["y"]), (("let", "x", X, X), ["x"]), (("let", "x", Y, ("app", X, Y)), ["y"]),
            (("app", ("fn", "x", X), X), ["x"]), (("rec", (("f", "x", ("tuple", (var("f"), var("g"), X, Y))), ("g", "y", ("app", X, Y))), ("tuple", (var("f"), var("g"), var("x")))), ["x", "y"]),
            (("rec", (("f", "f", var("f")),), ONE), []), (("app", ("rec", (("f", "x", X),), ONE), var("f")), ["f"]), (("app", ("rec", (("f", "x", X),), ONE), X), ["x"]),
            (("match", X, ((("var", "x"), X), (("any",), Y)), "Match"), ["x", "y"]), (("match", ONE, ((("var", "x"), X), (("any",), X)), "Match"), ["x"]), (("match", ONE, ((("as", "x", ("var", "y")), ("app", X, Y)),), "Match"), []),
            (("handle", X, ((("var", "x"), X),)), ["x"]), (("handle", ONE, ((("var", "x"), X), (("packet", Y, ("var", "z")), var("z")))), ["y"]), (("match", ONE, ((("packet", X, ("var", "x")), ONE),), "Match"), ["x"]),
            (("match", ONE, ((("tuple", (("var", "x"), ("packet", X, None))), X),), "Match"), ["x"]), (("let", "x", ONE, ("match", ONE, ((("packet", ("field", "a", X), None), ONE),), "Match")), []), (("match", ONE, ((("packet", EXN, None), ONE),), "Match"), ["mod S"]),
            (("field", "val x", Y), ["y"]), (("record", (("x", Y), ("y", ONE))), ["y"]), (("con", OPTION, 1, X), ["x"]), (("raise", X), ["x"]), (("packet", X, Y), ["x", "y"]), (("prim", "add", (Y, X)), ["x", "y"]), (("fn", "x", ("fn", "x", ("app", X, Y))), ["y"]),
            (("fn", "x", ("app", ("fn", "x", X), X)), []), (("let", "x", ONE, ("app", ("let", "x", X, X), X)), []),
        ]
        for tree, names in rows:
            self.assertEqual(free_variables(tree), names, tree)
            self.assertIs(is_plain(tree, names), True, tree)
            self.assertIs(is_plain(tree, ["other", *names]), True, tree)
            for name in names:
                self.assertIs(is_plain(tree, [other for other in names if other != name]), False, tree)

    def test_deep_trees(self):
        tree = ("var", "z")
        for k in range(20000):
            tree = ("let", f"x{k % 7}", ("var", f"x{k % 5}"), tree)
        self.assertTrue(is_plain(tree, [*free_variables(tree)]))
        self.assertIn("z", free_variables(tree))
        self.assertFalse(is_plain(tree, []))
        self.assertEqual(size(tree), 40001)


class Sizes(unittest.TestCase):
    def test_size(self):
        rows = [
            (ONE, 1), (X, 1), (("fn", "x", X), 2), (("rec", (("f", "x", X), ("g", "x", ("app", X, X))), ONE), 6), (("tuple", ()), 1), (("tuple", (ONE, ONE)), 3), (("record", (("a", ONE),)), 2), (("field", "a", X), 2), (("con", BOOL, 0, None), 1),
            (("con", OPTION, 1, ONE), 2), (("match", ONE, (ROW, (("tuple", (("any",), ("var", "x"))), X)), "Match"), 8), (("handle", ONE, ((("as", "x", ("con", OPTION, 1, ("int", 3))), X),)), 6), (("raise", ONE), 2), (("exception", "E"), 1), (("fixed", 1), 1),
            (("packet", X, None), 2), (("packet", X, ONE), 3), (("prim", "add", (ONE, ("prim", "neg", (ONE,)))), 4), (("let", "x", ONE, X), 3), (("match", ONE, ((("packet", ("field", "a", X), ("any",)), ONE),), "Match"), 7),
        ]
        for tree, count in rows:
            self.assertEqual(size(tree), count, tree)

    def test_arguments_stay_as_they_are(self):
        trees, names = copy.deepcopy(CLOSED), ["x"]
        for tree in trees:
            is_plain(tree, names), free_variables(tree), size(tree)
        self.assertEqual((trees, names), (CLOSED, ["x"]))


if __name__ == "__main__":
    unittest.main()
