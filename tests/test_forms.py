"""Which values are trees: 1.1, 1.2, 1.3 and the bounds of 1.5."""

import unittest

from shapewright.trees import (
    is_declaration, is_expression, is_module, is_pattern, is_program, is_shape, is_signature,
)

A = ("svar", "a")
INT = ("sname", ("int",), ())
P = ("pany",)
E = ("unit",)
RULE = (P, E)
LOCAL = ("val", P, E)
M = ("struct", ())
G = ("sig", ())
NO_TREES = (
    None, True, False, 0, 1, -5, "", "svar", "unit", (), ((),), (None,), (1,), (True,), ("",), ("nothing",),
    (("svar", "a"),), ((("pany",),),), ("svar",), ("unit", ()), ("unit", None), ("pany", "pany"),
)
CHECKS = (is_shape, is_pattern, is_expression, is_declaration, is_module, is_signature)


class Names(unittest.TestCase):
    def small(self, name):
        return is_shape(("svar", name))

    def capital(self, name):
        return is_expression(("con", (name,)))

    def test_lengths(self):
        for length, right in ((0, False), (1, True), (2, True), (15, True), (16, True), (17, False), (40, False)):
            self.assertEqual(self.small("a" * length), right, length)
            self.assertEqual(self.capital("A" * length), right, length)

    def test_characters(self):
        for name in ("a", "z", "aZ", "a0", "a9", "a_", "a_b", "aA_9", "x1y2"):
            self.assertTrue(self.small(name), name)
            self.assertTrue(self.capital(name.capitalize()), name)
        wrong = ("_", "_a", "1", "1a", "a-b", "a b", "a'", "'a", "a.b", "\u00e9", "a\u00e9", "\u00df", "a\n", " a", "+", "\u0661")
        for name in wrong:
            self.assertFalse(self.small(name), name)
            self.assertFalse(self.capital(name), name)

    def test_small_and_capital(self):
        self.assertFalse(self.small("A"))
        self.assertFalse(self.small("Ab"))
        self.assertFalse(self.capital("a"))
        self.assertFalse(self.capital("aB"))

    def test_words_are_no_identifiers(self):
        words = (
            "alias all and andalso as case div else end exception fn functor handle if in include let mod module of "
            "open orelse raise rec shape sig signature struct then val variant where"
        ).split()
        self.assertEqual(len(words), 32)
        for word in words:
            self.assertFalse(self.small(word), word)
            self.assertTrue(self.small(word + "x"), word)
            self.assertTrue(self.capital(word.capitalize()), word)

    def test_value_names(self):
        for name in ("x", "x1", "*", "div", "mod", "+", "-", "@", "=", "<>", "<", "<=", ">", ">=", ":=", "~", "!"):
            self.assertTrue(is_pattern(("pvar", name)), name)
            self.assertTrue(is_expression(("var", (name,))), name)
            self.assertTrue(is_pattern(("pas", name, P)), name)
        for name in ("X", "::", "->", "=>", "_", "", ":", "==", "fn", "if", 1, None, True, ("x",), "Div"):
            self.assertFalse(is_pattern(("pvar", name)), name)
            self.assertFalse(is_expression(("var", (name,))), name)

    def test_operators_are_no_small_identifiers(self):
        for name in ("+", "div", "~"):
            self.assertFalse(is_shape(("svar", name)))
            self.assertFalse(is_shape(("sname", (name,), ())))
            self.assertFalse(is_declaration(("alias", (), name, A)))
            self.assertFalse(is_declaration(("alias", (name,), "t", A)))

    def test_paths(self):
        for count in range(8):
            names = ("S",) * count
            right = 0 <= count <= 5
            self.assertEqual(is_expression(("var", (*names, "x"))), right, count)
            self.assertEqual(is_expression(("var", (*names, "+"))), right, count)
            self.assertEqual(is_expression(("con", (*names, "C"))), right, count)
            self.assertEqual(is_pattern(("pcon", (*names, "C"), None)), right, count)
            self.assertEqual(is_shape(("sname", (*names, "t"), ())), right, count)
            self.assertEqual(is_module(("mpath", (*names, "C"))), right, count)
            self.assertEqual(is_declaration(("open", (*names, "C"))), right, count)
        for path in ((), "x", None, ["x"], 1, ("s", "x"), ("S", "s", "x"), ("+", "x"), ("S", "X"), (("S",), "x"), ("S", 1)):
            self.assertFalse(is_expression(("var", path)), path)
        for path in ((), "C", ("c",), ("S", "x"), ("s", "C"), ("C", "+")):
            self.assertFalse(is_expression(("con", path)), path)
            self.assertFalse(is_module(("mpath", path)), path)

    def test_integers(self):
        for number in (0, 1, -1, 2147483647, -2147483648):
            self.assertTrue(is_expression(("int", number)))
            self.assertTrue(is_pattern(("pint", number)))
        for number in (2147483648, -2147483649, 10 ** 20, True, False, None, "1", (1,)):
            self.assertFalse(is_expression(("int", number)), number)
            self.assertFalse(is_pattern(("pint", number)), number)


class Kinds(unittest.TestCase):
    """Each form of each kind of tree, and that it belongs to no other kind."""

    FORMS = {
        is_shape: [A, INT, ("sname", ("S", "t"), (A, INT)), ("stuple", (A, A)), ("sarrow", A, INT)],
        is_pattern: [
            P, ("punit",), ("pvar", "x"), ("pint", 3), ("pcon", ("C",), None), ("pcon", ("S", "C"), P),
            ("ptuple", (P, P)), ("pas", "x", P), ("phas", P, A),
        ],
        is_expression: [
            ("int", 3), E, ("var", ("x",)), ("con", ("C",)), ("fn", (RULE,)), ("app", E, E), ("tuple", (E, E)),
            ("let", (LOCAL,), E), ("case", E, (RULE,)), ("raise", E), ("handle", E, (RULE,)), ("has", E, A),
        ],
        is_declaration: [
            LOCAL, ("rec", (("f", None, (RULE,)),)), ("rec", (("+", (("a",), A), (RULE,)),)), ("alias", (), "t", A),
            ("exception", "C", None), ("exception", "C", A), ("variant", (((), "t", (("C", None), ("D", A))),)),
            ("module", "X", M), ("functor", "F", "X", G, M), ("open", ("S",)),
        ],
        is_module: [
            M, ("struct", (LOCAL,)), ("mpath", ("S",)), ("apply", ("F",), M), ("sees", M, G), ("seals", M, G),
            ("mlet", (LOCAL,), M),
        ],
        is_signature: [G, ("gname", "G"), ("where", G, ("t",), ("a",), A)],
    }
    SPECS = [
        ("val", "x", ((), A)), ("shape", ("a",), "t"), ("alias", (), "t", A), ("exception", "C", None),
        ("variant", (((), "t", (("C", None),)),)), ("module", "X", G), ("include", G),
    ]

    def test_each_form_is_of_its_kind_alone(self):
        for check, forms in self.FORMS.items():
            for tree in forms:
                for other in CHECKS:
                    self.assertEqual(other(tree), other is check, (other, tree))

    def test_specs(self):
        for spec in self.SPECS:
            self.assertTrue(is_signature(("sig", (spec,))), spec)
            both = spec[0] in ("alias", "exception", "variant")
            self.assertEqual(is_declaration(spec), both, spec)
            self.assertEqual(is_program((spec,)), both, spec)
        for tree in self.FORMS[is_declaration]:
            both = tree[0] in ("alias", "exception", "variant")
            self.assertEqual(is_signature(("sig", (tree,))), both, tree)

    def test_local_declarations(self):
        for tree in self.FORMS[is_declaration]:
            local = tree[0] in ("val", "rec", "alias", "exception")
            self.assertEqual(is_expression(("let", (tree,), E)), local, tree)
            self.assertTrue(is_module(("struct", (tree,))), tree)
            self.assertTrue(is_module(("mlet", (tree,), M)), tree)
            self.assertTrue(is_program((tree,)), tree)

    def test_signature_declaration_occurs_only_in_a_program(self):
        tree = ("signature", "G", G)
        self.assertTrue(is_program((tree,)))
        self.assertTrue(is_program((LOCAL, tree, LOCAL)))
        for check in CHECKS:
            self.assertFalse(check(tree))
        self.assertFalse(is_module(("struct", (tree,))))
        self.assertFalse(is_module(("mlet", (tree,), M)))
        self.assertFalse(is_program((("module", "X", ("struct", (tree,))),)))
        self.assertFalse(is_signature(("sig", (tree,))))
        self.assertFalse(is_expression(("let", (tree,), E)))

    def test_a_part_too_few_or_too_many(self):
        for check, forms in self.FORMS.items():
            for tree in forms:
                for wrong in ((*tree, ()), (*tree, None), (*tree, "x"), tree[:-1]):
                    self.assertFalse(check(wrong), wrong)
                self.assertFalse(check(list(tree)))

    def test_each_part_replaced_by_what_is_no_tree(self):
        for check, forms in self.FORMS.items():
            for tree in forms:
                for index in range(1, len(tree)):
                    for wrong in (7.5, True, "Wrong-", ("x", "Y", "1"), (((),),)):
                        self.assertFalse(check((*tree[:index], wrong, *tree[index + 1:])), (tree, index, wrong))

    def test_parts_of_another_kind(self):
        wrong = [
            (is_shape, ("sarrow", A, P)), (is_shape, ("stuple", (A, E))), (is_shape, ("sname", ("t",), (P,))),
            (is_pattern, ("pcon", ("C",), A)), (is_pattern, ("ptuple", (P, E))), (is_pattern, ("phas", P, P)),
            (is_pattern, ("pas", "x", E)), (is_expression, ("fn", ((E, E),))), (is_expression, ("fn", ((P, P),))),
            (is_expression, ("app", E, P)), (is_expression, ("has", E, E)), (is_expression, ("case", P, (RULE,))),
            (is_declaration, ("val", E, E)), (is_declaration, ("val", P, P)), (is_declaration, ("module", "X", G)),
            (is_declaration, ("functor", "F", "X", M, M)), (is_declaration, ("functor", "F", "X", G, G)),
            (is_module, ("sees", M, M)), (is_module, ("apply", ("F",), G)), (is_signature, ("where", M, ("t",), (), A)),
            (is_signature, ("sig", (("module", "X", M),))), (is_signature, ("sig", (("include", M),))),
        ]
        for check, tree in wrong:
            self.assertFalse(check(tree), tree)

    def test_values_that_are_no_trees(self):
        for value in NO_TREES:
            for check in CHECKS:
                self.assertFalse(check(value), (check, value))
            if value != ():
                self.assertFalse(is_program(value), value)
        deep = ("unit",)
        for _ in range(55):
            deep = (deep,)
        for check in (*CHECKS, is_program):
            self.assertFalse(check(deep))

    def test_a_list_is_a_tuple(self):
        self.assertFalse(is_shape(("stuple", [A, A])))
        self.assertFalse(is_expression(("fn", [RULE])))
        self.assertFalse(is_expression(("fn", ([P, E],))))
        self.assertFalse(is_declaration(("alias", ["a"], "t", A)))
        self.assertFalse(is_expression(("fn", RULE)))
        self.assertFalse(is_program([LOCAL]))

    def test_left_out_parts(self):
        self.assertFalse(is_pattern(("pas", "x", None)))
        self.assertFalse(is_expression(("has", E, None)))
        self.assertFalse(is_expression(("raise", None)))
        self.assertFalse(is_declaration(("exception", "C", ())))
        self.assertFalse(is_declaration(("rec", (("f", (), (RULE,)),))))
        self.assertFalse(is_signature(("sig", (("val", "x", None),))))
        self.assertFalse(is_signature(("sig", (("val", "x", A),))))


class Lists(unittest.TestCase):
    """Lists with the smallest and the greatest number of elements, one less and one more."""

    def bounds(self, check, make, low, high):
        for count in range(high + 3):
            self.assertEqual(check(make(count)), low <= count <= high, count)

    def test_shapes(self):
        self.bounds(is_shape, lambda n: ("sname", ("t",), (A,) * n), 0, 4)
        self.bounds(is_shape, lambda n: ("stuple", (A,) * n), 2, 6)

    def test_patterns(self):
        self.bounds(is_pattern, lambda n: ("ptuple", (P,) * n), 2, 6)

    def test_expressions(self):
        self.bounds(is_expression, lambda n: ("tuple", (E,) * n), 2, 6)
        self.bounds(is_expression, lambda n: ("fn", (RULE,) * n), 1, 8)
        self.bounds(is_expression, lambda n: ("case", E, (RULE,) * n), 1, 8)
        self.bounds(is_expression, lambda n: ("handle", E, (RULE,) * n), 1, 8)
        self.bounds(is_expression, lambda n: ("let", (LOCAL,) * n, E), 1, 12)

    def test_declarations(self):
        self.bounds(is_declaration, lambda n: ("rec", (("f", None, (RULE,)),) * n), 1, 6)
        self.bounds(is_declaration, lambda n: ("rec", (("f", None, (RULE,) * n),)), 1, 8)
        self.bounds(is_declaration, lambda n: ("rec", (("f", (("a",) * n, A), (RULE,)),)), 0, 4)
        self.bounds(is_declaration, lambda n: ("alias", ("a",) * n, "t", A), 0, 4)
        self.bounds(is_declaration, lambda n: ("variant", (((), "t", (("C", None),)),) * n), 1, 4)
        self.bounds(is_declaration, lambda n: ("variant", ((("a",) * n, "t", (("C", None),)),)), 0, 4)
        self.bounds(is_declaration, lambda n: ("variant", (((), "t", (("C", A),) * n),)), 1, 12)

    def test_modules_and_signatures(self):
        self.bounds(is_module, lambda n: ("struct", (LOCAL,) * n), 0, 12)
        self.bounds(is_module, lambda n: ("mlet", (LOCAL,) * n, M), 1, 12)
        self.bounds(is_signature, lambda n: ("sig", (("include", G),) * n), 0, 12)
        self.bounds(is_signature, lambda n: ("where", G, ("t",), ("a",) * n, A), 0, 4)
        self.bounds(is_signature, lambda n: ("sig", (("shape", ("a",) * n, "t"),)), 0, 4)
        self.bounds(is_signature, lambda n: ("sig", (("val", "x", (("a",) * n, A)),)), 0, 4)

    def test_programs(self):
        self.bounds(is_program, lambda n: (LOCAL,) * n, 0, 12)
        self.assertTrue(is_program(()))

    def test_pairs_and_triples(self):
        for rule in ((P,), (P, E, E), P, (), None):
            self.assertFalse(is_expression(("fn", (rule,))), rule)
        for binding in (("f", None), ("f", None, (RULE,), ()), ("F", None, (RULE,)), (("f",), None, (RULE,)), "f"):
            self.assertFalse(is_declaration(("rec", (binding,))), binding)
        for element in (((), "t"), ((), "t", (("C", None),), ()), ((), "T", (("C", None),)), ((), "t", ("C", None)), ((), "t", (("c", None),)), "t"):
            self.assertFalse(is_declaration(("variant", (element,))), element)
        for constructor in (("C",), ("C", None, None), "C", ("C", P), ("C", True)):
            self.assertFalse(is_declaration(("variant", (((), "t", (constructor,)),))), constructor)
        for scheme in ((("a",),), (("a",), A, A), ("a", A), (("A",), A), ((), P), (A, ()), ()):
            self.assertFalse(is_signature(("sig", (("val", "x", scheme),))), scheme)


class Repeated(unittest.TestCase):
    X = ("pvar", "x")

    def test_a_name_twice_in_one_pattern(self):
        x = self.X
        wrong = [
            ("ptuple", (x, x)), ("pas", "x", x), ("ptuple", (x, ("pcon", ("C",), x))),
            ("pas", "x", ("pas", "x", P)), ("ptuple", (("pas", "x", P), ("phas", x, A))),
            ("pcon", ("C",), ("ptuple", (P, ("ptuple", (x, ("pas", "x", P)))))),
            ("ptuple", (("pvar", "+"), ("pvar", "+"))),
        ]
        for pattern in wrong:
            self.assertFalse(is_pattern(pattern), pattern)
            self.assertFalse(is_expression(("fn", ((pattern, E),))), pattern)
            self.assertFalse(is_program((("val", pattern, E),)), pattern)
        self.assertTrue(is_pattern(("ptuple", (x, ("pvar", "y"), ("pas", "z", P)))))

    def test_the_same_name_in_several_patterns(self):
        x = self.X
        self.assertTrue(is_expression(("fn", ((x, E), (x, ("fn", ((x, E),)))))))
        self.assertTrue(is_program((("val", x, E), ("val", x, E))))
        self.assertTrue(is_expression(("let", (("val", x, ("case", E, ((x, E),))),), E)))

    def test_other_names_may_repeat(self):
        self.assertTrue(is_declaration(("alias", ("a", "a"), "a", A)))
        self.assertTrue(is_declaration(("rec", (("f", (("a", "a"), A), (RULE,)), ("f", None, (RULE,))))))
        element = (("a", "a"), "t", (("C", None), ("C", A)))
        self.assertTrue(is_declaration(("variant", (element, element))))
        self.assertTrue(is_signature(("sig", (("shape", ("a", "a"), "t"), ("shape", (), "t")))))
        self.assertTrue(is_signature(("where", G, ("t",), ("a", "a"), A)))
        self.assertTrue(is_declaration(("functor", "F", "F", G, M)))


def chain(count):
    """A shape with this depth."""
    shape = A
    for _ in range(count - 1):
        shape = ("sname", ("t",), (shape,))
    return shape


def split_evenly(count):
    """Numbers from 1 on whose sum is the count: at most six, and two of them at least if it is more than 1."""
    parts = min(6, count)
    return [count // parts + (1 if index < count % parts else 0) for index in range(parts)]


def with_nodes(count):
    """An expression with just this number of nodes that is not deep."""
    if count == 1:
        return E
    if count == 2:
        return ("raise", E)
    return ("tuple", tuple(with_nodes(part) for part in split_evenly(count - 1)))


def shape_with_nodes(count):
    if count == 1:
        return A
    if count == 2:
        return ("sname", ("t",), (A,))
    return ("stuple", tuple(shape_with_nodes(part) for part in split_evenly(count - 1)))


class Bounds(unittest.TestCase):
    def test_depth_14_and_15(self):
        self.assertTrue(is_shape(chain(14)))
        self.assertFalse(is_shape(chain(15)))
        expression = E
        for _ in range(13):
            expression = ("raise", expression)
        self.assertTrue(is_expression(expression))
        self.assertFalse(is_expression(("raise", expression)))
        self.assertFalse(is_program((("val", P, expression),)))
        self.assertTrue(is_program((("val", P, expression[1]),)))
        module = M
        for _ in range(13):
            module = ("apply", ("F",), module)
        self.assertTrue(is_module(module))
        self.assertFalse(is_module(("apply", ("F",), module)))

    def test_400_and_401_nodes(self):
        for count in (1, 2, 3, 50, 399, 400, 401, 402, 600):
            self.assertEqual(is_expression(with_nodes(count)), count <= 400, count)
            self.assertEqual(is_declaration(("val", P, with_nodes(count - 2))) if count > 2 else True, count <= 400)
        self.assertTrue(is_module(("struct", (("val", P, with_nodes(397)),))))
        self.assertFalse(is_module(("struct", (("val", P, with_nodes(398)),))))
        self.assertTrue(is_pattern(("phas", P, shape_with_nodes(398))))
        self.assertFalse(is_pattern(("phas", P, shape_with_nodes(399))))
        self.assertTrue(is_signature(("where", G, ("t",), (), shape_with_nodes(398))))
        self.assertFalse(is_signature(("where", G, ("t",), (), shape_with_nodes(399))))

    def test_the_nodes_of_a_program_are_added(self):
        first = ("val", P, with_nodes(198))
        self.assertTrue(is_program((first, ("val", P, with_nodes(198)))))
        self.assertFalse(is_program((first, ("val", P, with_nodes(199)))))
        self.assertFalse(is_program((first, ("val", P, with_nodes(198)), ("open", ("S",)))))
        signature = ("signature", "G", ("where", G, ("t",), (), shape_with_nodes(196)))
        self.assertTrue(is_program((first, signature, ("open", ("S",)))))
        self.assertFalse(is_program((first, signature, ("open", ("S",)), ("open", ("S",)))))

    def test_shared_parts_are_counted_as_often_as_they_occur(self):
        tree = E
        for _ in range(50):
            tree = ("app", tree, tree)
        self.assertFalse(is_expression(tree))
        shape = A
        for _ in range(12):
            shape = ("stuple", (shape,) * 6)
        self.assertFalse(is_shape(shape))
