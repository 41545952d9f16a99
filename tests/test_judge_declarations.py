"""Derivations of declarations: 3.2 and 3.7 to 3.9."""

import copy
import unittest

from shapes import FREE, free, fun, listed, pair, ref
from shapewright.judge import right_declaration, right_expression
from shapewright.reader import read_expression, read_program
from shapewright.terms import ARITIES, EXN, INT, UNIT
from shapewright.variants import declare

A, B, C, W = [free(k) for k in range(4)]
G0, G1 = ("v", 0), ("v", 1)


ENTRIES = (
    ("shape", "int", 0, INT), ("shape", "unit", 0, UNIT), ("shape", "list", 1, listed(G0)), ("exn", "E", None),
    ("con", "Some", 1, G0, ("c", 6, (G0,)), 1, (("None", False), ("Some", True))), ("con", "None", 1, None, ("c", 6, (G0,)), 0, (("None", False), ("Some", True))),
    ("val", "id", (1, fun(G0, G0))), ("val", "ref", (1, fun(G0, ref(G0)))),
)
CONTEXT = (ENTRIES, ARITIES)
# With a weak variable.
WEAK = ((*ENTRIES, ("val", "w", (0, ref(W)))), ARITIES)
NOT_RIGHT = (None, 0, "val", (), ((),), ("val",), ("rec",), ("alias",), ("variant",), ("exception",), ("val", 0, 0), ("rec", ()), ("rec", 0), ("alias", ()))


def dint():
    return ("int", INT)


def dvar(shape, *shapes):
    return ("var", shape, shapes)


def dfn(pattern, expression):
    """The derivation of a function with one rule."""
    return ("fn", fun(pattern[1], expression[1]), ((pattern, expression),))


def val(name, scheme):
    return ("val", name, scheme)


class Case(unittest.TestCase):
    def result(self, text, derivation, context=CONTEXT):
        return right_declaration(context, read_program(text)[0], derivation)

    def right(self, text, derivation, *entries, context=CONTEXT):
        self.assertEqual(self.result(text, derivation, context), (entries, context[1]), (text, derivation))
        for changed in self.changed_forms(derivation):
            self.assertIsNone(self.result(text, changed, context), changed)

    def wrong(self, text, *derivations, context=CONTEXT):
        for derivation in derivations:
            self.assertIsNone(self.result(text, derivation, context), (text, derivation))

    def changed_forms(self, value):
        for other in (-1, "zz", ("zz",), ("v", 5)):
            if other != value:
                yield other
        if isinstance(value, tuple):
            if value != ():
                yield ()
            yield (*value, 0)
            yield (*value, value)
            if value:
                yield value[:-1]
            for index, part in enumerate(value):
                for changed in self.changed_forms(part):
                    yield (*value[:index], changed, *value[index + 1:])


class Values(Case):
    def test_one_variable(self):
        self.right("val x = 3", ("val", ("pvar", INT), dint()), val("x", (0, INT)))
        self.right("val x = id", ("val", ("pvar", fun(INT, INT)), dvar(fun(INT, INT), INT)), val("x", (0, fun(INT, INT))))
        self.wrong("val x = 3", ("val", ("pvar", UNIT), dint()), ("val", ("pany", INT), dint()), ("val", ("pvar", INT), ("unit", UNIT)), ("rec", ("pvar", INT), dint()), ("val", dint(), ("pvar", INT)), *NOT_RIGHT)

    def test_closing(self):
        identity = dfn(("pvar", B), dvar(B))
        self.right("val x = fn y => y", ("val", ("pvar", fun(B, B)), identity), val("x", (1, fun(G0, G0))))
        self.right("val x = id", ("val", ("pvar", fun(C, C)), dvar(fun(C, C), C)), val("x", (1, fun(G0, G0))))
        self.right("val x = None", ("val", ("pvar", ("c", 6, (A,))), ("con", ("c", 6, (A,)), (A,))), val("x", (1, ("c", 6, (G0,)))))
        some = ("app", ("c", 6, (fun(B, B),)), ("con", fun(fun(B, B), ("c", 6, (fun(B, B),))), (fun(B, B),)), identity)
        self.right("val x = Some (fn y => y)", ("val", ("pvar", some[1]), some), val("x", (1, ("c", 6, (fun(G0, G0),)))))

    def test_an_expansive_expression_is_not_closed(self):
        call = ("app", fun(B, B), dvar(fun(fun(B, B), fun(B, B)), fun(B, B)), dvar(fun(B, B), B))
        self.right("val x = id id", ("val", ("pvar", fun(B, B)), call), val("x", (0, fun(B, B))))
        made = ("app", ref(fun(B, B)), dvar(fun(fun(B, B), ref(fun(B, B))), fun(B, B)), dvar(fun(B, B), B))
        self.right("val r = ref id", ("val", ("pvar", made[1]), made), val("r", (0, ref(fun(B, B)))))
        raises = ("raise", B, ("con", EXN, ()))
        self.right("val x = (raise E, 3)", ("val", ("pvar", pair(B, INT)), ("tuple", pair(B, INT), (raises, dint()))), val("x", (0, pair(B, INT))))

    def test_variables_of_the_context_stay_free(self):
        identity = dfn(("pvar", W), dvar(W))
        self.right("val x = fn y => y", ("val", ("pvar", fun(W, W)), identity), val("x", (0, fun(W, W))), context=WEAK)
        self.right("val x = fn y => y", ("val", ("pvar", fun(B, B)), dfn(("pvar", B), dvar(B))), val("x", (1, fun(G0, G0))), context=WEAK)
        both = dfn(("pvar", B), dvar(ref(W)))
        self.right("val x = fn y => w", ("val", ("pvar", both[1]), both), val("x", (1, fun(G0, ref(W)))), context=WEAK)
        self.right("val x = w", ("val", ("pvar", ref(W)), dvar(ref(W))), val("x", (0, ref(W))), context=WEAK)

    def test_several_variables(self):
        shape = pair(fun(B, B), C)
        pattern = ("ptuple", shape, (("pvar", fun(B, B)), ("pvar", C)))
        self.right("val (x, y) = raise E", ("val", pattern, ("raise", shape, ("con", EXN, ()))), val("x", (0, fun(B, B))), val("y", (0, C)))
        shape = pair(fun(B, B), fun(C, fun(B, C)))
        pattern = ("pas", shape, ("ptuple", shape, (("pvar", shape[1][0]), ("pvar", shape[1][1]))))
        functions = (dfn(("pvar", B), dvar(B)), dfn(("pvar", C), dfn(("pany", B), dvar(C))))
        self.right(
            "val z as (x, y) = (fn a => a, fn b => fn _ => b)", ("val", pattern, ("tuple", shape, functions)),
            val("z", (2, pair(fun(G0, G0), fun(G1, fun(G0, G1))))), val("x", (1, fun(G0, G0))), val("y", (2, fun(G0, fun(G1, G0)))),
        )
        self.right("val _ = 3", ("val", ("pany", INT), dint()))

    def test_the_context_of_the_declaration(self):
        # The variable is not in scope in its own expression.
        self.wrong("val x = x", ("val", ("pvar", INT), dvar(INT)))
        self.wrong("val E = E", ("val", ("pcon", EXN, ()), ("con", EXN, (INT,))))
        self.right("val E = E", ("val", ("pcon", EXN, ()), ("con", EXN, ())))
        self.wrong("val x = 3 : nothing", ("val", ("pvar", INT), ("has", INT, dint())))
        self.wrong("val y = x", ("val", ("pvar", INT), dvar(INT)))

    def test_entries_extend_a_context(self):
        (entries, arities) = self.result("val i = fn y => y", ("val", ("pvar", fun(B, B)), dfn(("pvar", B), dvar(B))))
        derivation = dvar(fun(INT, INT), INT)
        self.assertTrue(right_expression(((*ENTRIES, *entries), arities), read_expression("i"), derivation))


class Plain(Case):
    """Recursive declarations without annotations."""

    def test_one_binding(self):
        loop = ("fn", fun(B, C), ((("pvar", B), ("app", C, dvar(fun(B, C)), dvar(B))),))
        self.right("rec f = fn x => f x", ("rec", (("plain", loop),)), val("f", (2, fun(G0, G1))))
        self.right("rec f = fn x => x", ("rec", (("plain", dfn(("pvar", INT), dvar(INT))),)), val("f", (0, fun(INT, INT))))
        self.wrong(
            "rec f = fn x => x", ("rec", ()), ("rec", (dfn(("pvar", INT), dvar(INT)),)), ("rec", (("fixed", dfn(("pvar", INT), dvar(INT))),)), ("rec", (("fixed", (), dfn(("pvar", INT), dvar(INT))),)),
            ("rec", (("plain", dvar(fun(INT, INT), INT)),)), ("rec", (("plain", dint()),)), ("rec", (("plain", (), dfn(("pvar", INT), dvar(INT))),)), ("rec", (("plain", dfn(("pvar", G0), dvar(G0))),)), *NOT_RIGHT,
        )

    def test_no_polymorphic_recursion(self):
        use = ("app", C, dvar(fun(pair(B, B), C)), ("tuple", pair(B, B), (dvar(B), dvar(B))))
        self.wrong("rec f = fn x => f (x, x)", ("rec", (("plain", ("fn", fun(B, C), ((("pvar", B), use),))),)))
        use = ("app", C, dvar(fun(B, C)), ("tuple", pair(B, B), (dvar(B), dvar(B))))
        self.wrong("rec f = fn x => f (x, x)", ("rec", (("plain", ("fn", fun(B, C), ((("pvar", B), use),))),)))
        self.wrong("rec f = fn x => f x", ("rec", (("plain", ("fn", fun(B, C), ((("pvar", B), ("app", C, dvar(fun(B, C), B), dvar(B))),))),)))

    def test_groups(self):
        f = ("fn", fun(B, C), ((("pvar", B), ("app", C, dvar(fun(B, C)), dvar(B))),))
        self.right("rec f = fn x => g x and g = fn x => f x", ("rec", (("plain", f), ("plain", f))), val("f", (2, fun(G0, G1))), val("g", (2, fun(G0, G1))))
        g = ("fn", fun(A, C), ((("pvar", A), ("app", C, dvar(fun(B, C)), dvar(A))),))
        self.wrong("rec f = fn x => g x and g = fn x => f x", ("rec", (("plain", f), ("plain", g))))
        self.wrong("rec f = fn x => g x and g = fn x => f x", ("rec", (("plain", f),)), ("rec", (("plain", f), ("plain", f), ("plain", f))))
        # Equal names are never right.
        self.wrong("rec f = fn x => f x and f = fn x => f x", ("rec", (("plain", f), ("plain", f))))

    def test_variables_of_the_context_stay_free(self):
        d = dfn(("pvar", B), dvar(ref(W)))
        self.right("rec f = fn x => w", ("rec", (("plain", d),)), val("f", (1, fun(G0, ref(W)))), context=WEAK)

    def test_a_binding_hides_the_context(self):
        d = ("fn", fun(B, C), ((("pvar", B), ("app", C, dvar(fun(B, C)), dvar(B))),))
        self.right("rec id = fn x => id x", ("rec", (("plain", d),)), val("id", (2, fun(G0, G1))))
        self.wrong("rec id = fn x => id x", ("rec", (("plain", ("fn", fun(INT, INT), ((("pvar", INT), ("app", INT, dvar(fun(INT, INT), INT), dvar(INT))),))),)))


class Fixed(Case):
    """Recursive declarations with annotations."""

    N, M = FREE + 20, FREE + 21
    VN, VM = ("v", FREE + 20), ("v", FREE + 21)

    def body(self, shape, result):
        """The derivation of `fn x => f (x, x)` at these shapes, where f has the scheme all 'a . 'a -> int."""
        use = ("app", result, dvar(fun(pair(shape, shape), result), pair(shape, shape)), ("tuple", pair(shape, shape), (dvar(shape), dvar(shape))))
        return ("fn", fun(shape, result), ((("pvar", shape), use),))

    def test_polymorphic_recursion(self):
        text = "rec f : all 'a . 'a -> int = fn x => f (x, x)"
        self.right(text, ("rec", (("fixed", (self.N,), self.body(self.VN, INT)),)), val("f", (1, fun(G0, INT))))
        self.wrong(
            text, ("rec", (("fixed", (self.M,), self.body(self.VN, INT)),)), ("rec", (("fixed", (), self.body(self.VN, INT)),)), ("rec", (("fixed", (self.N, self.M), self.body(self.VN, INT)),)),
            ("rec", (("fixed", (self.N,), self.body(INT, INT)),)), ("rec", (("plain", self.body(self.VN, INT)),)), ("rec", (("fixed", self.N, self.body(self.VN, INT)),)), *NOT_RIGHT,
        )
        self.wrong(text, ("rec", (("fixed", (FREE - 1,), self.body(("v", FREE - 1), INT)),)), ("rec", (("fixed", (0,), self.body(G0, INT)),)))
        self.wrong(text, ("rec", (("fixed", ("a",), self.body(self.VN, INT)),)), ("rec", (("fixed", (self.VN,), self.body(self.VN, INT)),)))

    def test_the_shape_of_the_annotation(self):
        text = "rec f : all 'a . 'a -> 'a = fn x => x"
        self.right(text, ("rec", (("fixed", (self.N,), dfn(("pvar", self.VN), dvar(self.VN))),)), val("f", (1, fun(G0, G0))))
        self.wrong(text, ("rec", (("fixed", (self.N,), dfn(("pvar", INT), dvar(INT))),)), ("rec", (("fixed", (self.N,), dfn(("pvar", B), dvar(B))),)))
        self.right("rec f : int -> int = fn x => x", ("rec", (("fixed", (), dfn(("pvar", INT), dvar(INT))),)), val("f", (0, fun(INT, INT))))
        self.wrong("rec f : int -> int = fn x => x", ("rec", (("fixed", (self.N,), dfn(("pvar", INT), dvar(INT))),)), ("rec", (("plain", dfn(("pvar", INT), dvar(INT))),)))
        self.wrong("rec f : int -> int = fn x => x", ("rec", (("fixed", (), dfn(("pvar", B), dvar(B))),)))

    def test_parameters_that_do_not_occur_and_the_order_of_numbers(self):
        d = dfn(("pvar", self.VN), dvar(self.VN))
        text = "rec f : all 'b 'a . 'a -> 'a = fn x => x"
        self.right(text, ("rec", (("fixed", (self.M, self.N), d),)), val("f", (1, fun(G0, G0))))
        self.wrong(text, ("rec", (("fixed", (self.N, self.M), d),)), ("rec", (("fixed", (self.N,), d),)), ("rec", (("fixed", (self.N, self.N), d),)))
        d = dfn(("pvar", self.VN), dfn(("pany", self.VM), dvar(self.VN)))
        text = "rec f : all 'b 'a . 'a -> 'b -> 'a = fn x => fn _ => x"
        self.right(text, ("rec", (("fixed", (self.M, self.N), d),)), val("f", (2, fun(G0, fun(G1, G0)))))
        self.wrong(text, ("rec", (("fixed", (self.N, self.M), d),)))

    def test_numbers_are_those_of_free_variables(self):
        text = "rec f : all 'b 'a . 'a -> 'a = fn x => x"
        d = dfn(("pvar", self.VN), dvar(self.VN))
        for number, right in ((FREE, True), (FREE + 1, True), (FREE - 1, False), (0, False), (-1, False)):
            result = self.result(text, ("rec", (("fixed", (number, self.N), d),)))
            self.assertEqual(result is not None, right, number)

    def test_different_numbers(self):
        d = dfn(("pvar", self.VN), dfn(("pany", self.VN), dvar(self.VN)))
        self.wrong("rec f : all 'a 'b . 'a -> 'b -> 'a = fn x => fn _ => x", ("rec", (("fixed", (self.N, self.N), d),)))

    def test_errors_of_the_annotation(self):
        d = dfn(("pvar", self.VN), dvar(self.VN))
        self.wrong("rec f : all 'a 'a . 'a -> 'a = fn x => x", ("rec", (("fixed", (self.N, self.N), d),)), ("rec", (("fixed", (self.N, self.M), d),)), ("rec", (("fixed", (self.M, self.N), d),)))
        self.wrong("rec f : all 'a . 'b -> 'b = fn x => x", ("rec", (("fixed", (self.N,), d),)))
        self.wrong("rec f : nothing -> nothing = fn x => x", ("rec", (("fixed", (), d),)))

    def test_names_of_the_annotation_in_the_rules(self):
        d = ("fn", fun(self.VN, self.VN), ((("phas", self.VN, ("pvar", self.VN)), ("has", self.VN, dvar(self.VN))),))
        self.right("rec f : all 'a . 'a -> 'a = fn x : 'a => x : 'a", ("rec", (("fixed", (self.N,), d),)), val("f", (1, fun(G0, G0))))
        self.wrong("rec f : all 'b . 'b -> 'b = fn x : 'a => x : 'a", ("rec", (("fixed", (self.N,), d),)))
        # They are not in scope in the other bindings.
        other = ("fixed", (self.N,), ("fn", fun(self.VN, self.VN), ((("pvar", self.VN), dvar(self.VN)),)))
        self.wrong("rec g : all 'a . 'a -> 'a = fn x => x and f : all 'b . 'b -> 'b = fn x : 'a => x : 'a", ("rec", (other, ("fixed", (self.N,), d))))

    def test_numbers_of_the_context(self):
        d = dfn(("pvar", W), dvar(W))
        text = "rec f : all 'a . 'a -> 'a = fn x => x"
        self.wrong(text, ("rec", (("fixed", (FREE + 3,), d),)), context=WEAK)
        self.right(text, ("rec", (("fixed", (FREE + 3,), d),)), val("f", (1, fun(G0, G0))), context=CONTEXT)
        named = ((*ENTRIES, ("name", "b", W)), ARITIES)
        self.wrong(text, ("rec", (("fixed", (FREE + 3,), d),)), context=named)
        inside = ((*ENTRIES, ("module", "S", (("val", "w", (0, W)),))), ARITIES)
        self.wrong(text, ("rec", (("fixed", (FREE + 3,), d),)), context=inside)

    def test_numbers_of_different_bindings_may_be_equal(self):
        part = ("fixed", (self.N,), dfn(("pvar", self.VN), dvar(self.VN)))
        text = "rec f : all 'a . 'a -> 'a = fn x => x and g : all 'b . 'b -> 'b = fn x => x"
        self.right(text, ("rec", (part, part)), val("f", (1, fun(G0, G0))), val("g", (1, fun(G0, G0))))
        other = ("fixed", (self.M,), dfn(("pvar", self.VM), dvar(self.VM)))
        self.right(text, ("rec", (part, other)), val("f", (1, fun(G0, G0))), val("g", (1, fun(G0, G0))))

    def test_plain_and_fixed_bindings_in_either_order(self):
        # The plain binding uses the fixed one at two shapes; the fixed one uses the plain one at its one shape.
        fixed = ("fixed", (self.N,), dfn(("pvar", self.VN), dvar(self.VN)))
        twice = ("tuple", pair(INT, UNIT), (("app", INT, dvar(fun(INT, INT), INT), dint()), ("app", UNIT, dvar(fun(UNIT, UNIT), UNIT), ("unit", UNIT))))
        plain = ("plain", ("fn", fun(B, pair(INT, UNIT)), ((("pany", B), twice),)))
        f, g = val("f", (1, fun(G0, G0))), val("g", (1, fun(G0, pair(INT, UNIT))))
        self.right("rec f : all 'a . 'a -> 'a = fn x => x and g = fn _ => (f 1, f ())", ("rec", (fixed, plain)), f, g)
        self.right("rec g = fn _ => (f 1, f ()) and f : all 'a . 'a -> 'a = fn x => x", ("rec", (plain, fixed)), g, f)

    def test_numbers_in_the_shape_of_a_plain_binding(self):
        fixed = ("fixed", (self.N,), dfn(("pvar", self.VN), dvar(self.VN)))
        bad = ("plain", dfn(("pany", self.VN), dint()))
        good = ("plain", dfn(("pany", self.VM), dint()))
        first, second = "rec f : all 'a . 'a -> 'a = fn x => x and g = fn _ => 3", "rec g = fn _ => 3 and f : all 'a . 'a -> 'a = fn x => x"
        f, g = val("f", (1, fun(G0, G0))), val("g", (1, fun(G0, INT)))
        self.right(first, ("rec", (fixed, good)), f, g)
        self.right(second, ("rec", (good, fixed)), g, f)
        self.wrong(first, ("rec", (fixed, bad)))
        self.wrong(second, ("rec", (bad, fixed)))

    def test_a_fixed_binding_that_uses_a_plain_one(self):
        # g has one shape in the whole group, so f cannot give it its own general argument.
        text = "rec f : all 'a . 'a -> int = fn x => g x and g = fn _ => 3"
        use = ("app", INT, dvar(fun(self.VN, INT)), dvar(self.VN))
        fixed = ("fixed", (self.N,), ("fn", fun(self.VN, INT), ((("pvar", self.VN), use),)))
        self.wrong(text, ("rec", (fixed, ("plain", dfn(("pany", self.VN), dint())))), ("rec", (fixed, ("plain", dfn(("pany", B), dint())))))

    def test_a_shape_variable_of_an_outer_annotation(self):
        # The inner binding has no parameters of its own; 'a stands for the outer binding's variable.
        inner = ("rec", (("fixed", (), dfn(("pvar", self.VN), dvar(self.VN))),))
        body = ("let", self.VN, (inner,), ("app", self.VN, dvar(fun(self.VN, self.VN)), dvar(self.VN)))
        d = ("rec", (("fixed", (self.N,), ("fn", fun(self.VN, self.VN), ((("pvar", self.VN), body),))),))
        text = "rec f : all 'a . 'a -> 'a = fn x => let rec g : 'a -> 'a = fn y => y in g x end"
        self.right(text, d, val("f", (1, fun(G0, G0))))
        again = ("rec", (("fixed", (self.N,), dfn(("pvar", self.VN), dvar(self.VN))),))
        wrong = ("let", self.VN, (again,), ("app", self.VN, dvar(fun(self.VN, self.VN), self.VN), dvar(self.VN)))
        text = "rec f : all 'a . 'a -> 'a = fn x => let rec g : all 'b . 'b -> 'b = fn y => y in g x end"
        self.wrong(text, ("rec", (("fixed", (self.N,), ("fn", fun(self.VN, self.VN), ((("pvar", self.VN), wrong),))),)))
        other = ("rec", (("fixed", (self.M,), dfn(("pvar", self.VM), dvar(self.VM))),))
        good = ("let", self.VN, (other,), ("app", self.VN, dvar(fun(self.VN, self.VN), self.VN), dvar(self.VN)))
        self.right(text, ("rec", (("fixed", (self.N,), ("fn", fun(self.VN, self.VN), ((("pvar", self.VN), good),))),)), val("f", (1, fun(G0, G0))))


class Others(Case):
    def test_alias_variant_and_exception(self):
        for text in ("alias 'a t = 'a list", "variant 'a t = X | Y of 'a t and u = Z of int", "exception X", "exception X of int list"):
            declaration = read_program(text)[0]
            derivation = (declaration[0],)
            result = right_declaration(CONTEXT, declaration, derivation)
            self.assertEqual(result, declare(CONTEXT, declaration))
            for wrong in (*NOT_RIGHT, (declaration[0], ()), declaration[0]):
                if wrong != derivation:
                    self.assertIsNone(right_declaration(CONTEXT, declaration, wrong), wrong)

    def test_arities(self):
        (entries, arities) = self.result("variant 'a t = X and u = Y", ("variant",))
        self.assertEqual(arities, (*ARITIES, 1, 0))
        self.assertEqual(entries[0], ("shape", "t", 1, ("c", 8, (G0,))))
        self.assertEqual(self.result("alias t = int", ("alias",)), ((("shape", "t", 0, INT),), ARITIES))

    def test_errors_of_the_declaration(self):
        for text in (
            "alias ('a, 'a) t = int", "alias t = nothing", "alias t = list", "alias t = 'a", "variant t = A and t = B", "variant t = A | A", "variant ('a, 'a) t = A", "variant t = A of nothing",
            "exception E of nothing", "exception E of 'a", "exception E of int int",
        ):
            declaration = read_program(text)[0]
            self.assertIsNone(right_declaration(CONTEXT, declaration, (declaration[0],)), text)

    def test_shape_variables_in_a_local_exception(self):
        named = ((*ENTRIES, ("name", "a", B)), ARITIES)
        self.assertEqual(self.result("exception X of 'a", ("exception",), named), ((("exn", "X", B),), ARITIES))
        self.assertIsNone(self.result("alias t = 'a", ("alias",), named))

    def test_nothing_is_changed(self):
        before = copy.deepcopy(CONTEXT)
        self.result("variant 'a t = X", ("variant",))
        self.result("val x = 3", ("val", ("pvar", INT), dint()))
        self.assertEqual(CONTEXT, before)
