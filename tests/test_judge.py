"""Derivations and their judge: 3.1 to 3.6 and 3.10."""

import copy
import unittest

from shapes import FREE, free, fun, listed, pair, ref, towers
from shapewright.judge import is_expansive, right_expression, right_pattern
from shapewright.reader import read_expression, read_pattern
from shapewright.terms import ARITIES, BOOL, EXN, INT, UNIT

A, B, C = [free(k) for k in range(3)]
G0, G1 = ("v", 0), ("v", 1)


LISTS = (("Nil", False), ("Cons", True))
DEEP = towers(99, INT)
ENTRIES = (
    ("shape", "int", 0, INT), ("shape", "unit", 0, UNIT), ("shape", "list", 1, listed(G0)), ("shape", "exn", 0, EXN), ("shape", "deep", 0, DEEP),
    ("con", "False", 0, None, BOOL, 0, (("False", False), ("True", False))), ("con", "True", 0, None, BOOL, 1, (("False", False), ("True", False))),
    ("con", "Nil", 1, None, listed(G0), 0, LISTS), ("con", "Cons", 1, pair(G0, listed(G0)), listed(G0), 1, LISTS),
    ("con", "Box", 0, DEEP, ("c", 8, ()), 0, (("Box", True),)), ("exn", "E", None), ("exn", "F", INT), ("name", "z", C),
    ("val", "n", (0, INT)), ("val", "id", (1, fun(G0, G0))), ("val", "swap", (2, fun(pair(G0, G1), pair(G1, G0)))), ("val", "ref", (1, fun(G0, ref(G0)))),
    ("val", "weak", (0, A)), ("val", "deep", (1, fun(G0, DEEP[2][0]))), ("val", "+", (0, fun(pair(INT, INT), INT))),
    ("module", "S", (("val", "m", (0, UNIT)), ("exn", "G", None), ("module", "T", (("val", "id", (1, fun(G0, G0))),)))),
)
CONTEXT = (ENTRIES, (*ARITIES, 0))

NOT_RIGHT = (None, 0, 1, "", "int", (), ((),), (("int", INT),), (0, INT), ("nothing", INT))


def dint():
    return ("int", INT)


def dunit():
    return ("unit", UNIT)


def dvar(shape, *shapes):
    return ("var", shape, shapes)


def dcon(shape, *shapes):
    return ("con", shape, shapes)


def one_rule(pattern, expression):
    return ((pattern, expression),)


class Case(unittest.TestCase):
    def right(self, text, derivation, context=CONTEXT):
        expression = read_expression(text)
        self.assertIs(right_expression(context, expression, derivation), True, (text, derivation))
        self.broken_forms(lambda d: right_expression(context, expression, d), derivation, False)

    def wrong(self, text, *derivations, context=CONTEXT):
        for derivation in derivations:
            self.assertIs(right_expression(context, read_expression(text), derivation), False, (text, derivation))

    def right_pattern(self, text, derivation, bindings, context=CONTEXT):
        pattern = read_pattern(text)
        self.assertEqual(right_pattern(context, pattern, derivation), bindings, (text, derivation))
        self.broken_forms(lambda d: right_pattern(context, pattern, d), derivation, None)

    def wrong_pattern(self, text, *derivations, context=CONTEXT):
        for derivation in derivations:
            self.assertIsNone(right_pattern(context, read_pattern(text), derivation), (text, derivation))

    def broken_forms(self, judge, derivation, expected):
        """No derivation is right in which a part of another form stands anywhere, or a part is missing or too many."""
        for changed in self.changed_forms(derivation):
            self.assertIs(judge(changed), expected, changed)

    def changed_forms(self, value):
        # What stands inside shapes may be any of these, too, but it is then no shape of this derivation.
        for other in (-1, "zz", ("zz",), ("v", 5), ("v", -1)):
            if other != value:
                yield other
        if isinstance(value, tuple):
            if value != ():
                yield ()
            yield (*value, 0)
            yield (*value, INT)
            yield (*value, value)
            if value:
                yield value[:-1]
                yield value[1:]
            for index, part in enumerate(value):
                for changed in self.changed_forms(part):
                    yield (*value[:index], changed, *value[index + 1:])


class Expressions(Case):
    def test_constants(self):
        self.right("3", dint())
        self.right("()", dunit())
        self.wrong("3", ("int", UNIT), ("int", A), ("unit", INT), ("unit", UNIT), *NOT_RIGHT)
        self.wrong("()", ("unit", INT), ("unit", A), ("int", UNIT), *NOT_RIGHT)

    def test_variables(self):
        self.right("n", dvar(INT))
        self.right("id", dvar(fun(INT, INT), INT))
        self.right("id", dvar(fun(B, B), B))
        self.right("id", dvar(fun(listed(A), listed(A)), listed(A)))
        self.right("swap", dvar(fun(pair(INT, B), pair(B, INT)), INT, B))
        self.right("S.m", dvar(UNIT))
        self.right("S.T.id", dvar(fun(A, A), A))
        self.right("weak", dvar(A))
        self.wrong("n", dvar(UNIT), dvar(INT, INT), dvar(A), ("con", INT, ()), *NOT_RIGHT)
        self.wrong("id", dvar(fun(INT, INT)), dvar(fun(INT, INT), UNIT), dvar(fun(INT, INT), INT, INT), dvar(fun(INT, UNIT), INT), dvar(INT, INT))
        self.wrong("swap", dvar(fun(pair(INT, B), pair(B, INT)), B, INT), dvar(fun(pair(INT, B), pair(INT, B)), INT, B))
        self.wrong("weak", dvar(B), dvar(INT), dvar(A, A))

    def test_unknown_variables(self):
        for text in ("m", "S.n", "S.T.m", "T.id", "U.m", "E", "q"):
            self.wrong(text, dvar(INT), dvar(UNIT), dvar(fun(A, A), A), dcon(UNIT))

    def test_constructors(self):
        self.right("Nil", dcon(listed(INT), INT))
        self.right("Cons", dcon(fun(pair(B, listed(B)), listed(B)), B))
        self.right("True", dcon(BOOL))
        self.right("E", dcon(EXN))
        self.right("F", dcon(fun(INT, EXN)))
        self.right("S.G", dcon(EXN))
        self.wrong("Nil", dcon(listed(INT)), dcon(listed(INT), UNIT), dcon(INT, INT), dcon(listed(INT), INT, INT), ("var", listed(INT), (INT,)))
        self.wrong("F", dcon(EXN), dcon(fun(UNIT, EXN)), dcon(fun(INT, EXN), INT))
        self.wrong("G", dcon(EXN))
        self.wrong("Box", dcon(fun(DEEP, ("c", 8, ()))), dcon(("c", 8, ())))

    def test_shapes_of_a_derivation(self):
        # No stamp of the context, a wrong arity, or a parameter.
        for shape in (("c", 9, ()), ("c", 5, ()), ("c", 0, (INT,)), G0, ("v", 999999), ("t", (INT,)), listed(DEEP), ("f", INT)):
            self.wrong("id", dvar(fun(shape, shape), shape))
            self.wrong("raise E", ("raise", shape, dcon(EXN)))
            self.wrong("fn x => 3", ("fn", fun(shape, INT), one_rule(("pvar", shape), dint())))
        self.right("id", dvar(fun(("c", 8, ()), ("c", 8, ())), ("c", 8, ())))
        self.wrong("id", dvar(fun(("c", 8, ()), ("c", 8, ())), ("c", 8, ())), context=(ENTRIES, ARITIES))

    def test_an_argument_that_does_not_occur_must_be_a_shape(self):
        entries = (("val", "k", (0, INT)), *ENTRIES)
        self.wrong("k", ("var", INT, 0), ("var", INT, INT), ("var", INT, (G0,)), ("var", INT, "ab"), context=(entries, ARITIES))

    def test_functions(self):
        d = ("fn", fun(A, A), one_rule(("pvar", A), dvar(A)))
        self.right("fn x => x", d)
        self.right("fn x => x", ("fn", fun(INT, INT), one_rule(("pvar", INT), dvar(INT))))
        self.right("fn 1 => () | x => ()", ("fn", fun(INT, UNIT), ((("pint", INT), dunit()), (("pvar", INT), dunit()))))
        self.right("fn (x, y) => y", ("fn", fun(pair(A, B), B), one_rule(("ptuple", pair(A, B), (("pvar", A), ("pvar", B))), dvar(B))))
        self.wrong(
            "fn x => x", ("fn", fun(A, B), d[2]), ("fn", fun(B, A), d[2]), ("fn", pair(A, A), d[2]), ("fn", A, d[2]), ("fn", fun(A, A), ()), ("fn", fun(A, A), d[2] * 2),
            ("fn", fun(A, A), d[2][0]), ("fn", fun(A, A), one_rule(("pvar", B), dvar(A))), ("fn", fun(A, A), one_rule(("pvar", A), dvar(B))), ("fn", fun(A, A), (d[2][0][:1],)),
            ("fn", fun(A, A), ((*d[2][0], dvar(A)),)), *NOT_RIGHT,
        )
        self.wrong("fn 1 => () | x => ()", ("fn", fun(INT, UNIT), ((("pint", INT), dunit()), (("pvar", UNIT), dunit()))),
                   ("fn", fun(INT, UNIT), ((("pint", INT), dunit()), (("pvar", INT), dint()))), ("fn", fun(INT, UNIT), ((("pint", INT), dunit()),)))

    def test_bindings_are_in_scope_and_hide(self):
        self.right("fn n => n", ("fn", fun(UNIT, UNIT), one_rule(("pvar", UNIT), dvar(UNIT))))
        self.right("fn id => id", ("fn", fun(A, A), one_rule(("pvar", A), dvar(A))))
        self.wrong("fn id => id", ("fn", fun(fun(A, A), fun(A, A)), one_rule(("pvar", fun(A, A)), dvar(fun(A, A), A))))
        self.wrong("(fn x => 3, x)", ("tuple", pair(fun(A, INT), A), (("fn", fun(A, INT), one_rule(("pvar", A), dint())), dvar(A))))

    def test_applications(self):
        function = dvar(fun(INT, INT), INT)
        self.right("id 3", ("app", INT, function, dint()))
        self.right("F 3", ("app", EXN, dcon(fun(INT, EXN)), dint()))
        self.right("1 + 2", ("app", INT, dvar(fun(pair(INT, INT), INT)), ("tuple", pair(INT, INT), (dint(), dint()))))
        self.wrong(
            "id 3", ("app", UNIT, function, dint()), ("app", INT, dvar(fun(A, A), A), dint()), ("app", INT, dint(), function), ("app", INT, function, dunit()),
            ("app", fun(INT, INT), function, dint()), *NOT_RIGHT,
        )
        self.wrong("id 3", ("app", INT, dvar(fun(UNIT, UNIT), UNIT), dint()))
        self.wrong("n 3", ("app", INT, dvar(INT), dint()), ("app", INT, dvar(fun(INT, INT)), dint()))

    def test_tuples(self):
        self.right("(1, ())", ("tuple", pair(INT, UNIT), (dint(), dunit())))
        self.right("(1, (), 2)", ("tuple", ("t", (INT, UNIT, INT)), (dint(), dunit(), dint())))
        self.wrong(
            "(1, ())", ("tuple", pair(UNIT, INT), (dint(), dunit())), ("tuple", ("t", (INT, UNIT, INT)), (dint(), dunit(), dint())), ("tuple", pair(INT, UNIT), (dint(),)),
            ("tuple", pair(INT, UNIT), (dunit(), dint())), ("tuple", pair(INT, UNIT), (dint(), dint())), ("tuple", fun(INT, UNIT), (dint(), dunit())), *NOT_RIGHT,
        )

    def test_case(self):
        rules = ((("pint", INT), dunit()), (("pany", INT), dunit()))
        self.right("case 3 of 1 => () | _ => ()", ("case", UNIT, dint(), rules))
        self.right("case n of x => x", ("case", INT, dvar(INT), one_rule(("pvar", INT), dvar(INT))))
        self.wrong(
            "case 3 of 1 => () | _ => ()", ("case", INT, dint(), rules), ("case", UNIT, dunit(), rules), ("case", UNIT, dint(), rules[:1]),
            ("case", UNIT, dint(), (rules[0], (("pany", UNIT), dunit()))), ("case", UNIT, dint(), (rules[0], (("pany", INT), dint()))), ("case", UNIT, dint(), rules[::-1]), *NOT_RIGHT,
        )

    def test_raise(self):
        self.right("(raise E, n)", ("tuple", pair(A, INT), (("raise", A, dcon(EXN)), dvar(INT))))
        for shape in (INT, A, fun(B, listed(B)), EXN):
            self.assertTrue(right_expression(CONTEXT, read_expression("raise E"), ("raise", shape, dcon(EXN))))
        self.wrong("raise 3", ("raise", INT, dint()))
        self.wrong("raise F", ("raise", INT, dcon(fun(INT, EXN))))
        self.wrong("raise E", ("raise", INT, dint()), ("raise", INT), ("raise", G0, dcon(EXN)), *NOT_RIGHT)

    def test_handle(self):
        rules = ((("pcon", EXN, ()), dint()), (("pvar", EXN), dint()))
        self.right("n handle E => 1 | x => 2", ("handle", INT, dvar(INT), rules))
        self.wrong(
            "n handle E => 1 | x => 2", ("handle", UNIT, dvar(INT), rules), ("handle", INT, dvar(UNIT), rules), ("handle", INT, dvar(INT), rules[:1]),
            ("handle", INT, dvar(INT), (rules[0], (("pvar", INT), dint()))), ("handle", INT, dvar(INT), (rules[0], (("pvar", EXN), dunit()))), *NOT_RIGHT,
        )
        self.wrong("n handle 3 => 1", ("handle", INT, dvar(INT), one_rule(("pint", INT), dint())))

    def test_has(self):
        self.right("n : int", ("has", INT, dvar(INT)))
        self.right("id : int -> int", ("has", fun(INT, INT), dvar(fun(INT, INT), INT)))
        self.right("id : 'z -> 'z", ("has", fun(C, C), dvar(fun(C, C), C)))
        self.wrong("n : int", ("has", UNIT, dvar(INT)), ("has", INT, dvar(UNIT)), ("has", INT, dint()), ("has", UNIT, dvar(UNIT)), *NOT_RIGHT)
        self.wrong("id : int -> int", ("has", fun(A, A), dvar(fun(A, A), A)))
        self.wrong("raise E : unit", ("raise", UNIT, dcon(EXN)))
        # Errors of elaboration: an unknown name, a wrong arity, a shape that is too large.
        self.wrong("n : nothing", ("has", INT, dvar(INT)))
        self.wrong("n : int int", ("has", INT, dvar(INT)))
        self.wrong("n : 'a", ("has", INT, dvar(INT)))
        self.wrong("(raise E) : deep list", ("has", DEEP, ("raise", DEEP, dcon(EXN))), ("has", listed(DEEP), ("raise", listed(DEEP), dcon(EXN))))

    def test_an_instance_that_is_too_large(self):
        # The scheme of `deep` has a function from its parameter to a shape of depth 99.
        self.assertTrue(right_expression(CONTEXT, read_expression("deep"), dvar(fun(INT, DEEP[2][0]), INT)))
        self.wrong("id", dvar(fun(DEEP, DEEP), DEEP))
        self.wrong("id id", ("app", fun(DEEP, DEEP), dvar(fun(fun(DEEP, DEEP), fun(DEEP, DEEP)), fun(DEEP, DEEP)), dvar(fun(DEEP, DEEP), DEEP)))

    def test_let(self):
        value = ("val", ("pvar", INT), dint())
        self.right("let val x = 3 in x end", ("let", INT, (value,), dvar(INT)))
        self.right("let val x = 3 val x = () in x end", ("let", UNIT, (value, ("val", ("pvar", UNIT), dunit())), dvar(UNIT)))
        identity = ("val", ("pvar", fun(B, B)), ("fn", fun(B, B), one_rule(("pvar", B), dvar(B))))
        both = ("tuple", pair(fun(INT, INT), fun(UNIT, UNIT)), (dvar(fun(INT, INT), INT), dvar(fun(UNIT, UNIT), UNIT)))
        self.right("let val i = fn x => x in (i, i) end", ("let", both[1], (identity,), both))
        self.right("let exception X of int val x = X 3 in raise x end", (
            "let", A, (("exception",), ("val", ("pvar", EXN), ("app", EXN, dcon(fun(INT, EXN)), dint()))), ("raise", A, dvar(EXN)),
        ))
        self.right("let alias t = int in 3 : t end", ("let", INT, (("alias",),), ("has", INT, dint())))
        self.wrong(
            "let val x = 3 in x end", ("let", UNIT, (value,), dvar(INT)), ("let", INT, (), dvar(INT)), ("let", INT, (value, value), dvar(INT)), ("let", INT, (value,), dvar(UNIT)),
            ("let", INT, (("val", ("pvar", UNIT), dint()),), dvar(INT)), ("let", INT, (dint(),), dvar(INT)), ("let", INT, value, dvar(INT)), *NOT_RIGHT,
        )
        # The first declaration does not see the second one.
        self.wrong("let val y = x val x = 3 in y end", ("let", INT, (("val", ("pvar", INT), dvar(INT)), value), dvar(INT)))
        self.wrong("let alias t = nothing in 3 end", ("let", INT, (("alias",),), dint()))
        self.wrong("(let val x = 3 in x end, x)", ("tuple", pair(INT, INT), (("let", INT, (value,), dvar(INT)), dvar(INT))))

    def test_nothing_is_changed(self):
        derivation = ("let", INT, (("val", ("pvar", INT), dint()),), dvar(INT))
        before = copy.deepcopy((CONTEXT, derivation))
        right_expression(CONTEXT, read_expression("let val x = 3 in x end"), derivation)
        self.assertEqual((CONTEXT, derivation), before)


class Patterns(Case):
    def test_any_and_variables(self):
        self.right_pattern("x", ("pvar", A), (("x", A),))
        self.right_pattern("( + )", ("pvar", fun(A, B)), (("+", fun(A, B)),))
        for shape in (INT, A, fun(A, INT)):
            self.assertEqual(right_pattern(CONTEXT, read_pattern("_"), ("pany", shape)), ())
        self.wrong_pattern("_", ("pany", G0), ("pany", ("c", 9, ())), ("pany",), ("pany", INT, INT), ("pvar", INT), *NOT_RIGHT)
        self.wrong_pattern("x", ("pvar", G0), ("pany", A), ("pvar", listed(DEEP)), *NOT_RIGHT)

    def test_constants(self):
        self.right_pattern("3", ("pint", INT), ())
        self.right_pattern("()", ("punit", UNIT), ())
        self.wrong_pattern("3", ("pint", UNIT), ("pint", A), ("punit", INT), *NOT_RIGHT)
        self.wrong_pattern("()", ("punit", INT), ("punit", A), ("pint", UNIT), *NOT_RIGHT)

    def test_constructors_without_argument(self):
        self.right_pattern("Nil", ("pcon", listed(B), (B,)), ())
        self.right_pattern("E", ("pcon", EXN, ()), ())
        self.right_pattern("S.G", ("pcon", EXN, ()), ())
        self.wrong_pattern("Nil", ("pcon", listed(B), ()), ("pcon", listed(B), (A,)), ("pcon", INT, (INT,)), ("pcon", listed(INT), (INT, INT)), ("pcon", listed(INT), (INT,), ("pany", INT)))
        self.wrong_pattern("Cons", ("pcon", listed(INT), (INT,)), ("pcon", fun(pair(INT, listed(INT)), listed(INT)), (INT,)))
        self.wrong_pattern("F", ("pcon", EXN, ()), ("pcon", fun(INT, EXN), ()))
        self.wrong_pattern("G", ("pcon", EXN, ()))
        self.wrong_pattern("Nothing", ("pcon", EXN, ()))

    def test_constructors_with_argument(self):
        inner = ("ptuple", pair(INT, listed(INT)), (("pvar", INT), ("pvar", listed(INT))))
        self.right_pattern("x :: y", ("pcon", listed(INT), (INT,), inner), (("x", INT), ("y", listed(INT))))
        self.right_pattern("F x", ("pcon", EXN, (), ("pvar", INT)), (("x", INT),))
        self.right_pattern("Cons z", ("pcon", listed(A), (A,), ("pvar", pair(A, listed(A)))), (("z", pair(A, listed(A))),))
        self.wrong_pattern(
            "x :: y", ("pcon", listed(INT), (INT,)), ("pcon", listed(INT), (), inner), ("pcon", listed(INT), (UNIT,), inner), ("pcon", listed(UNIT), (INT,), inner),
            ("pcon", listed(INT), (INT, INT), inner), ("pcon", listed(UNIT), (UNIT,), inner), ("pcon", fun(inner[1], listed(INT)), (INT,), inner),
        )
        self.wrong_pattern("F x", ("pcon", EXN, (), ("pvar", UNIT)), ("pcon", INT, (), ("pvar", INT)), ("pcon", EXN, (INT,), ("pvar", INT)), ("pcon", EXN, (), ("pint", INT)))
        self.wrong_pattern("E x", ("pcon", EXN, (), ("pvar", INT)), ("pcon", EXN, (), ("pvar", UNIT)))
        self.wrong_pattern("Nil x", ("pcon", listed(INT), (INT,), ("pvar", INT)))
        self.wrong_pattern("Nothing x", ("pcon", EXN, (), ("pvar", INT)))

    def test_a_function_beyond_the_bounds(self):
        # The argument has a depth of 100, so the function from it to the result has 101.
        self.wrong_pattern("Box x", ("pcon", ("c", 8, ()), (), ("pvar", DEEP)))
        tower = DEEP[2][0][2][0]  # 98 deep: the argument of Cons is then 100 deep, and the function 101.
        self.right_or_not(tower, None)
        self.right_or_not(tower[2][0], (("x", pair(tower[2][0], listed(tower[2][0]))),))

    def right_or_not(self, shape, bindings):
        derivation = ("pcon", listed(shape), (shape,), ("pvar", pair(shape, listed(shape))))
        self.assertEqual(right_pattern(CONTEXT, read_pattern("Cons x"), derivation), bindings)

    def test_tuples(self):
        parts = (("pvar", A), ("pany", INT), ("pvar", B))
        shape = ("t", (A, INT, B))
        self.right_pattern("(x, _, y)", ("ptuple", shape, parts), (("x", A), ("y", B)))
        self.wrong_pattern(
            "(x, _, y)", ("ptuple", ("t", (A, INT, A)), parts), ("ptuple", shape, parts[:2]), ("ptuple", pair(A, INT), parts[:2]), ("ptuple", shape, parts[::-1]),
            ("ptuple", fun(A, B), parts), ("ptuple", shape, (*parts, ("pany", INT))), *NOT_RIGHT,
        )

    def test_as(self):
        self.right_pattern("x as y", ("pas", A, ("pvar", A)), (("x", A), ("y", A)))
        self.right_pattern("x as 3", ("pas", INT, ("pint", INT)), (("x", INT),))
        self.wrong_pattern("x as y", ("pas", A, ("pvar", B)), ("pas", A), ("pas", A, ("pany", A)), *NOT_RIGHT)
        self.wrong_pattern("x as 3", ("pas", A, ("pint", INT)), ("pas", A, ("pint", A)))

    def test_has(self):
        self.right_pattern("x : int", ("phas", INT, ("pvar", INT)), (("x", INT),))
        self.right_pattern("x : 'z list", ("phas", listed(C), ("pvar", listed(C))), (("x", listed(C)),))
        self.wrong_pattern("x : int", ("phas", UNIT, ("pvar", UNIT)), ("phas", INT, ("pvar", A)), ("phas", A, ("pvar", INT)), ("phas", A, ("pvar", A)), *NOT_RIGHT)
        self.wrong_pattern("x : nothing", ("phas", INT, ("pvar", INT)))
        self.wrong_pattern("x : list", ("phas", listed(INT), ("pvar", listed(INT))))
        self.wrong_pattern("x : 'a", ("phas", A, ("pvar", A)))

    def test_bindings_in_order(self):
        derivation = ("pas", pair(INT, pair(A, B)), ("ptuple", pair(INT, pair(A, B)), (("pas", INT, ("pvar", INT)), ("ptuple", pair(A, B), (("pvar", A), ("pvar", B))))))
        self.right_pattern("a as (b as c, (d, e))", derivation, (("a", derivation[1]), ("b", INT), ("c", INT), ("d", A), ("e", B)))


class Expansive(unittest.TestCase):
    def test_expressions(self):
        for text in (
            "3", "()", "x", "S.x", "C", "fn x => f x", "C 3", "C (fn x => x)", "C (D 3)", "S.C x", "(1, x)", "(C 1, fn x => x)", "3 : int", "(C x : t) : t", "1 :: Nil", "1 :: 2 :: Nil",
            "(fn x => x) : t", "C ((1, x) : t)",
        ):
            self.assertIs(is_expansive(read_expression(text)), False, text)
        for text in (
            "f x", "f 3", "1 + 2", "C (f x)", "(1, f x)", "(C (f x), 1)", "f x : int", "raise E", "x handle _ => 1", "let val x = 1 in x end", "case x of y => y", "if x then y else z", "(x; y)",
            "1 :: f x", "(C 1) 2", "(C : t) 1", "(fn x => x) 1", "C (1, raise E)", "x andalso y",
        ):
            self.assertIs(is_expansive(read_expression(text)), True, text)
