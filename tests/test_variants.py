"""Elaboration: 2.14 to 2.16."""

import copy
import unittest

from shapes import free, fun, listed, towers, wide
from shapewright.context import constructor_scheme, lookup
from shapewright.errors import DuplicateName, ShapewrightError, TooLarge, UnknownName, WrongArity
from shapewright.reader import read_program, read_shape
from shapewright.terms import ARITIES, EXN, INT, UNIT, depth, size
from shapewright.variants import declare, elaborate, elaborate_scheme

X, Y = free(0), free(1)
G0, G1, G2 = ("v", 0), ("v", 1), ("v", 2)


ENTRIES = (
    ("shape", "int", 0, INT), ("shape", "unit", 0, UNIT), ("shape", "list", 1, listed(G0)), ("shape", "swap", 2, ("t", (G1, G0))),
    ("shape", "const", 1, INT), ("shape", "twice", 1, ("t", (G0, G0))), ("name", "z", X), ("name", "y", fun(X, Y)),
    ("module", "S", (("shape", "t", 0, UNIT), ("module", "T", (("shape", "t", 1, ("c", 6, (G0,))),)))),
)
CONTEXT = (ENTRIES, ARITIES)


class Case(unittest.TestCase):
    def raised(self, kind, name, action, *arguments):
        with self.assertRaises(ShapewrightError) as caught:
            action(*arguments)
        self.assertIs(type(caught.exception), kind)
        if name is not None:
            self.assertEqual(caught.exception.name, name)

    def shape(self, text, names=()):
        return elaborate(CONTEXT, names, read_shape(text))


class Elaborate(Case):
    def test_each_form(self):
        for text, names, shape in (
            ("int", (), INT), ("'a", ("a",), G0), ("'b", ("a", "b"), G1), ("'z", (), X), ("'y", (), fun(X, Y)), ("int list", (), listed(INT)),
            ("'a list list", ("a",), listed(listed(G0))), ("int * unit * 'a", ("a",), ("t", (INT, UNIT, G0))), ("int -> 'a", ("a",), fun(INT, G0)),
            ("('a, 'b) swap", ("a", "b"), ("t", (G1, G0))), ("('b, 'a) swap", ("a", "b"), ("t", (G0, G1))), ("(int, 'b list) swap", ("a", "b"), ("t", (listed(G1), INT))),
            ("'a const", ("a",), INT), ("(int -> int) twice", (), ("t", (fun(INT, INT), fun(INT, INT)))), ("S.t", (), UNIT), ("'a S.T.t", ("a",), ("c", 6, (G0,))),
            ("'z list -> 'z", (), fun(listed(X), X)),
        ):
            self.assertEqual(self.shape(text, names), shape, text)

    def test_parameter_names_hide_shape_variables(self):
        self.assertEqual(self.shape("'z", ("z",)), G0)
        self.assertEqual(self.shape("'z -> 'y", ("a", "y")), fun(X, G1))

    def test_the_last_entry_counts(self):
        context = ((*ENTRIES, ("shape", "int", 0, UNIT), ("name", "z", Y)), ARITIES)
        self.assertEqual(elaborate(context, (), read_shape("int * 'z")), ("t", (UNIT, Y)))

    def test_unknown_names(self):
        for text, name in (
            ("'a", ("svar", "a")), ("t", ("t",)), ("S.u", ("S", "u")), ("U.t", ("U", "t")), ("S.T.u", ("S", "T", "u")), ("'a list", ("svar", "a")),
            ("int -> 'a", ("svar", "a")), ("int * t", ("t",)), ("T.t", ("T", "t")),
        ):
            self.raised(UnknownName, name, self.shape, text)

    def test_wrong_arities(self):
        for text, path in (
            ("list", ("list",)), ("int int", ("int",)), ("(int, int) list", ("list",)), ("int swap", ("swap",)), ("S.T.t", ("S", "T", "t")),
            ("int S.t", ("S", "t")), ("(int, int, int) swap", ("swap",)), ("const", ("const",)),
        ):
            self.raised(WrongArity, path, self.shape, text)

    def test_a_node_comes_before_its_children_and_these_from_the_left(self):
        for text, kind, name in (
            ("'a list list int", WrongArity, ("int",)), ("'a u", UnknownName, ("u",)), ("'a int", WrongArity, ("int",)), ("'a u list", UnknownName, ("u",)),
            ("'a -> u", UnknownName, ("svar", "a")), ("u -> 'a", UnknownName, ("u",)), ("int * list * 'a", WrongArity, ("list",)), ("('a, u) swap", UnknownName, ("svar", "a")),
            ("(u, 'a) swap", UnknownName, ("u",)), ("(list, 'a) v", UnknownName, ("v",)), ("('a * u) list", UnknownName, ("svar", "a")), ("(int -> u) * 'a", UnknownName, ("u",)),
            ("'a const", UnknownName, ("svar", "a")),
        ):
            self.raised(kind, name, self.shape, text)

    def test_too_large(self):
        tower = towers(99, INT)
        large = wide(1555, INT)
        self.assertEqual(size(large), 1555)
        entries = (*ENTRIES, ("shape", "deep", 0, tower), ("shape", "wide", 0, large), ("name", "d", tower))
        context = (entries, ARITIES)
        self.assertEqual(depth(elaborate(context, (), read_shape("deep"))), 100)
        for text in (
            "deep list", "int * deep", "deep -> int", "int -> deep", "wide * wide", "wide twice", "deep twice", "'d list", "(deep list) const", "(wide * wide) const",
            "(wide -> wide) const const", "wide -> wide", "int * (deep list) const",
        ):
            with self.assertRaises(TooLarge, msg=text):
                elaborate(context, (), read_shape(text))
        for text, shape in (("deep const", INT), ("wide const * int", ("t", (INT, INT))), ("wide", large), ("'d", tower)):
            self.assertEqual(elaborate(context, (), read_shape(text)), shape)


    def test_the_bounds_of_the_parts(self):
        def fits(text, size_of_wide, levels):
            entries = (*ENTRIES, ("shape", "wide", 0, wide(size_of_wide, INT)), ("shape", "deep", 0, towers(levels, INT)))
            try:
                elaborate((entries, ARITIES), (), read_shape(text))
            except TooLarge:
                return False
            return True

        for text, greatest in (("wide * int", 1998), ("wide -> int", 1998), ("int -> wide", 1998), ("wide list", 1999), ("wide", 2000), ("(wide * int) const", 1998), ("wide list const", 1999)):
            self.assertTrue(fits(text, greatest, 1), text)
            self.assertFalse(fits(text, greatest + 1, 1), text)
        for text, greatest in (("deep * int", 98), ("int -> deep", 98), ("deep list", 98), ("deep", 99), ("(int * deep list) const", 97)):
            self.assertTrue(fits(text, 1, greatest), text)
            self.assertFalse(fits(text, 1, greatest + 1), text)


class Schemes(Case):
    def scheme(self, text):
        # A binding without rules of its own is the shortest way to read a scheme.
        return read_program(f"rec f : {text} = fn x => x")[0][1][0][1]

    def test_schemes(self):
        for text, scheme in (
            ("int", (0, INT)), ("all 'a . 'a -> 'a", (1, fun(G0, G0))), ("all 'a 'b . 'b -> 'a", (2, fun(G0, G1))), ("all 'a 'b 'c . 'c -> 'b -> 'c", (2, fun(G0, fun(G1, G0)))),
            ("all 'a . int", (0, INT)), ("all 'a 'b . ('a, 'b) swap", (2, ("t", (G0, G1)))), ("all 'a . 'a const", (0, INT)), ("all 'a . 'z -> 'a", (1, fun(X, G0))),
            ("'z", (0, X)), ("all 'z . 'z -> 'y", (1, fun(G0, fun(X, Y)))),
        ):
            self.assertEqual(elaborate_scheme(CONTEXT, self.scheme(text)), scheme, text)

    def test_errors(self):
        for text, kind, name in (
            ("all 'a 'a . 'b", DuplicateName, "a"), ("all 'a 'b 'b 'a . t", DuplicateName, "b"), ("all 'a 'b 'a 'b . list", DuplicateName, "a"), ("all 'a . 'b", UnknownName, ("svar", "b")),
            ("all 'a . 'a int", WrongArity, ("int",)), ("'a", UnknownName, ("svar", "a")),
        ):
            self.raised(kind, name, elaborate_scheme, CONTEXT, self.scheme(text))


class Declare(Case):
    def declare(self, text, context=CONTEXT):
        return declare(context, read_program(text)[0])

    def test_alias(self):
        for text, entry in (
            ("alias t = int", ("shape", "t", 0, INT)), ("alias 'a t = 'a list", ("shape", "t", 1, listed(G0))), ("alias ('a, 'b) t = 'b -> 'a", ("shape", "t", 2, fun(G1, G0))),
            ("alias ('a, 'b) t = 'b", ("shape", "t", 2, G1)), ("alias 'a t = int", ("shape", "t", 1, INT)), ("alias list = int list", ("shape", "list", 0, listed(INT))),
            ("alias 'z t = 'z", ("shape", "t", 1, G0)),
        ):
            self.assertEqual(self.declare(text), ((entry,), ARITIES), text)
        self.raised(DuplicateName, "a", self.declare, "alias ('a, 'a) t = u")
        self.raised(DuplicateName, "b", self.declare, "alias ('a, 'b, 'b, 'a) t = int")
        self.raised(UnknownName, ("svar", "z"), self.declare, "alias t = 'z")
        self.raised(UnknownName, ("svar", "z"), self.declare, "alias 'a t = 'a -> 'z list")
        self.raised(UnknownName, ("t",), self.declare, "alias t = t")
        self.raised(WrongArity, ("list",), self.declare, "alias t = list")

    def test_exception(self):
        self.assertEqual(self.declare("exception C"), ((("exn", "C", None),), ARITIES))
        self.assertEqual(self.declare("exception C of int list"), ((("exn", "C", listed(INT)),), ARITIES))
        self.assertEqual(self.declare("exception C of 'z -> 'y"), ((("exn", "C", fun(X, fun(X, Y))),), ARITIES))
        self.raised(UnknownName, ("svar", "a"), self.declare, "exception C of 'a")
        self.raised(WrongArity, ("int",), self.declare, "exception C of int int")

    def test_a_variant(self):
        entries, arities = self.declare("variant 'a tree = Leaf | Node of 'a tree * 'a * 'a tree")
        tree = ("c", 8, (G0,))
        family = (("Leaf", False), ("Node", True))
        self.assertEqual(arities, (*ARITIES, 1))
        self.assertEqual(entries, (
            ("shape", "tree", 1, tree), ("con", "Leaf", 1, None, tree, 0, family), ("con", "Node", 1, ("t", (tree, G0, tree)), tree, 1, family),
        ))

    def test_groups_that_use_one_another(self):
        entries, arities = self.declare(
            "variant t = A of int u | B and 'a u = C of t | D of ('a, t) v and ('a, 'b) v = E of 'b -> 'a u"
        )
        t, u, v = ("c", 8, ()), ("c", 9, (G0,)), ("c", 10, (G0, G1))
        self.assertEqual(arities, (*ARITIES, 0, 1, 2))
        self.assertEqual(entries, (
            ("shape", "t", 0, t), ("shape", "u", 1, u), ("shape", "v", 2, v),
            ("con", "A", 0, ("c", 9, (INT,)), t, 0, (("A", True), ("B", False))), ("con", "B", 0, None, t, 1, (("A", True), ("B", False))),
            ("con", "C", 1, t, u, 0, (("C", True), ("D", True))), ("con", "D", 1, ("c", 10, (G0, t)), u, 1, (("C", True), ("D", True))),
            ("con", "E", 2, fun(G1, u), v, 0, (("E", True),)),
        ))

    def test_the_names_of_a_group_hide_those_of_the_context(self):
        entries, _ = self.declare("variant int = A of int and list = B of list")
        self.assertEqual(entries[2][3], ("c", 8, ()))
        self.assertEqual(entries[3][3], ("c", 9, ()))
        self.raised(WrongArity, ("list",), self.declare, "variant list = B of int list")

    def test_stamps_follow_the_arities(self):
        context = (ENTRIES, (*ARITIES, 2, 0))
        entries, arities = self.declare("variant 'a t = A and u = B", context)
        self.assertEqual(arities, (*ARITIES, 2, 0, 1, 0))
        self.assertEqual(entries[0], ("shape", "t", 1, ("c", 10, (G0,))))
        self.assertEqual(entries[1], ("shape", "u", 0, ("c", 11, ())))

    def test_parameters_of_a_variant(self):
        entries, _ = self.declare("variant ('a, 'b) t = A of 'b | B of 'b * 'b | C | D of int")
        self.assertEqual([entry[3] for entry in entries[1:]], [G1, ("t", (G1, G1)), None, INT])
        self.assertEqual(constructor_scheme(entries[1]), (2, fun(G0, ("c", 8, (G1, G0)))))
        self.raised(UnknownName, ("svar", "c"), self.declare, "variant ('a, 'b) t = A of 'c")
        self.raised(UnknownName, ("svar", "b"), self.declare, "variant 'a t = A of 'a and 'b u = B of 'b | C of 'b t and 'c v = D of 'b")
        # A shape variable of the text is not used.
        self.raised(UnknownName, ("svar", "z"), self.declare, "variant 'a t = A of 'z")

    def test_duplicate_names_and_their_order(self):
        for text, name in (
            ("variant t = A and t = B", "t"), ("variant t = A and u = B and u = C and t = D", "u"), ("variant ('a, 'a) t = A and u = B and t = C", "t"),
            ("variant ('a, 'b) t = A and ('a, 'c, 'c) u = B", "c"), ("variant ('b, 'b) t = A and ('a, 'a) u = B", "b"), ("variant t = A | B | A", "A"),
            ("variant t = A | B and u = C | B", "B"), ("variant ('a, 'a) t = A | A", "a"), ("variant t = A | A and ('c, 'c) u = B", "c"), ("variant t = A | A of v", "A"),
            ("variant t = A of v | B | B", "B"), ("variant t = A | B and u = B | A", "B"),
        ):
            self.raised(DuplicateName, name, self.declare, text)
        # Names of different kinds and of different elements may be the same.
        self.declare("variant 'a a = A and 'a b = B")

    def test_arguments_are_elaborated_in_order(self):
        self.raised(UnknownName, ("v",), self.declare, "variant t = A | B of v | C of w and u = D of list")
        self.raised(WrongArity, ("list",), self.declare, "variant t = A of list and u = D of w")

    def test_an_argument_whose_function_is_too_deep(self):
        tower = towers(99, INT)
        context = ((*ENTRIES, ("shape", "deep", 0, tower)), ARITIES)
        entries, _ = self.declare("variant t = A of deep", context)
        self.assertEqual(depth(entries[1][3]), 100)
        with self.assertRaises(TooLarge):
            constructor_scheme(entries[1])
        entries, _ = self.declare("exception E of deep", context)
        with self.assertRaises(TooLarge):
            constructor_scheme(entries[0])
        with self.assertRaises(TooLarge):
            self.declare("variant t = A of deep list", context)

    def test_the_context_stays_as_it_is(self):
        context = copy.deepcopy(CONTEXT)
        entries, _ = self.declare("variant 'a t = A of 'a t")
        self.assertEqual(CONTEXT, context)
        self.assertIsNone(lookup(CONTEXT[0], "shape", ("t",)))
        self.assertIsInstance(entries, tuple)

    def test_shapes_of_the_first_stamps(self):
        self.assertEqual(EXN, ("c", 2, ()))
        self.assertEqual(constructor_scheme(("exn", "E", G0))[1], fun(G0, EXN))
