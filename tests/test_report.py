"""Written shapes and reports: points 10.15 and 10.16."""

import unittest

from shapewright.basis import BASIS
from shapewright.reader import read_program
from shapewright.report import report, shape_text
from shapewright.structures import declare_all
from shapewright.terms import ARITIES, FREE

INT, UNIT, EXN, BOOL = [("c", stamp, ()) for stamp in (0, 1, 2, 4)]
A, B, C = [("v", number) for number in range(3)]
W, X, Y = [("v", FREE + number) for number in (3, 1, 77)]


def ref(shape):
    return ("c", 3, (shape,))


def many(shape):
    return ("c", 5, (shape,))


def pair(*shapes):
    return ("t", shapes)


def arrow(first, second):
    return ("f", first, second)


def declared(text, context=BASIS):
    entries, after, _, _ = declare_all(context, read_program(text))
    return entries, after[0]


class Shapes(unittest.TestCase):
    def check(self, shape, text, names=BASIS[0]):
        self.assertEqual(shape_text(names, shape), text)

    def test_names_of_the_basis(self):
        for stamp, text in enumerate(("int", "unit", "exn", "'a ref", "bool", "'a list", "'a option", "order")):
            self.check(("c", stamp, (A,) * ARITIES[stamp]), text)

    def test_variables(self):
        for number, text in ((0, "'a"), (1, "'b"), (25, "'z"), (26, "'a1"), (27, "'b1"), (51, "'z1"), (52, "'a2"), (26 * 11, "'a11")):
            self.check(("v", number), text)
        self.check(W, "'_1")
        self.check(pair(W, X, W, Y), "'_1 * '_2 * '_1 * '_3")
        self.check(pair(B, W, A, arrow(X, W)), "'b * '_1 * 'a * ('_2 -> '_1)")
        self.check(pair(INT, many(Y)), "int * '_1 list")

    def test_arrows_and_tuples(self):
        self.check(arrow(INT, arrow(BOOL, UNIT)), "int -> bool -> unit")
        self.check(arrow(arrow(INT, BOOL), UNIT), "(int -> bool) -> unit")
        self.check(arrow(pair(INT, BOOL), pair(UNIT, EXN)), "int * bool -> unit * exn")
        self.check(pair(INT, pair(BOOL, UNIT)), "int * (bool * unit)")
        self.check(pair(arrow(INT, BOOL), UNIT, arrow(A, A)), "(int -> bool) * unit * ('a -> 'a)")
        self.check(arrow(arrow(arrow(A, B), B), C), "(('a -> 'b) -> 'b) -> 'c")

    def test_arguments(self):
        self.check(many(many(INT)), "int list list")
        self.check(many(pair(INT, A)), "(int * 'a) list")
        self.check(many(arrow(INT, A)), "(int -> 'a) list")
        self.check(ref(many(arrow(many(A), A))), "('a list -> 'a) list ref")
        two = (*BASIS[0], ("shape", "map", 2, ("c", 8, (A, B))))
        self.check(("c", 8, (INT, A)), "(int, 'a) map", two)
        self.check(("c", 8, (arrow(INT, A), pair(A, A))), "(int -> 'a, 'a * 'a) map", two)
        self.check(many(("c", 8, (INT, many(A)))), "(int, 'a list) map list", two)
        self.check(pair(("c", 8, (INT, A)), INT), "(int, 'a) map * int", two)
        self.check(arrow(("c", 8, (INT, A)), INT), "(int, 'a) map -> int", two)

    def test_stamps_without_a_name(self):
        self.check(("c", 8, ()), "?8")
        self.check(("c", 8, (INT, BOOL)), "(int, bool) ?8")
        self.check(many(INT), "?0 ?5", ())
        self.check(("c", 1234, (INT,)), "int ?1234")
        # Not a plain name of the stamp: other arguments, another order, too few parameters.
        self.check(("c", 5, (INT,)), "?0 ?5", (("shape", "ints", 0, many(("c", 0, ()))),))
        self.check(("c", 8, (INT, BOOL)), "(int, bool) ?8", (*BASIS[0], ("shape", "t", 2, ("c", 8, (B, A)))))
        self.check(("c", 8, (INT, BOOL)), "(int, bool) ?8", (*BASIS[0], ("shape", "t", 1, ("c", 8, (A, A)))))

    def test_the_first_path_that_is_not_hidden(self):
        s = ("c", 8, ())
        one, two = ("shape", "one", 0, s), ("shape", "two", 0, s)
        hiding = ("shape", "one", 0, INT)
        self.check(s, "one", (one, two))
        self.check(s, "two", (two, one))
        self.check(s, "two", (one, two, hiding))
        self.check(s, "?8", (one, hiding))
        self.check(s, "one", (one, hiding, one))
        # All shape entries of a level come before its modules.
        self.check(s, "two", (("module", "M", (one,)), two))
        self.check(s, "M.one", (("module", "M", (one,)), two, ("shape", "two", 0, BOOL)))
        self.check(s, "M.two", (("module", "M", (("module", "N", (one,)), two)), ("module", "K", (one,))))
        self.check(s, "M.N.one", (("module", "M", (("module", "N", (one,)),)), ("module", "K", (one,))))
        # A module that is hidden by a later one, which has no such entry, or another one, or an equal one.
        self.check(s, "?8", (("module", "M", (one,)), ("module", "M", ())))
        self.check(s, "K.one", (("module", "M", (one,)), ("module", "K", (one,)), ("module", "M", (hiding,))))
        self.check(s, "M.one", (("module", "M", (one,)), ("module", "K", (one,)), ("module", "M", (two, one))))
        # A module does not hide a shape of the same name in another space.
        self.check(s, "one", (one, ("val", "one", (0, INT)), ("module", "One", (hiding,))))


class Reports(unittest.TestCase):
    def check(self, text, *lines):
        entries, names = declared(text)
        self.assertEqual(report(entries, names), list(lines), text)

    def test_each_kind_of_entry(self):
        self.check("val x = 1", "val x : int")
        self.check("val (+) = fn (x, y) => x val (~) = 4 val (:=) = 5 val (mod) = 6", "val + : 'a * 'b -> 'a", "val ~ : int", "val := : int", "val mod : int")
        self.check("variant 'a t = A | B of 'a * int", "shape 'a t", "con A : 'a t", "con B : 'a * int -> 'a t")
        self.check("variant ('a, 'b) t = A of 'b | B of 'a", "shape ('a, 'b) t", "con A : 'a -> ('b, 'a) t", "con B : 'a -> ('a, 'b) t")
        self.check("exception A exception B of int * bool", "exception A", "exception B of int * bool")
        self.check("alias t = int alias 'a u = 'a list list alias ('a, 'b) v = 'b * 'a", "alias t = int", "alias 'a u = 'a list list", "alias ('a, 'b) v = 'b * 'a")
        self.check("alias ('a, 'b, 'c) t = int", "alias ('a, 'b, 'c) t = int")
        self.check("signature S = sig val x : int end functor F (X : S) = struct end", "signature S", "functor F")
        self.check("module M = struct end", "module M = sig", "end")
        self.check("")

    def test_modules(self):
        text = "module M = struct module N = struct val x = 1 end variant t = A exception E val f = fn A => 1 functor F (X : sig end) = struct end end"
        self.check(text, "module M = sig", "  val f : M.t -> int", "  shape t", "  con A : M.t", "  exception E", "  module N = sig", "    val x : int", "  end", "  functor F", "end")

    def test_shape_or_alias(self):
        self.check("variant t = A alias u = t", "shape t", "con A : t", "alias u = t")
        self.check("variant t = A alias u = t alias t = int", "con A : u", "shape u", "alias t = int")
        self.check("module M = struct variant t = A end alias u = M.t", "module M = sig", "  alias t = u", "  con A : u", "end", "shape u")
        self.check("module M = struct variant t = A alias u = t end", "module M = sig", "  shape t", "  alias u = M.t", "  con A : M.t", "end")
        self.check("module M = struct alias t = int end :> sig shape t end", "module M = sig", "  shape t", "end")

    def test_hidden_entries(self):
        self.check("val x = 1 val x = ()", "val x : unit")
        self.check("exception C variant t = C", "shape t", "con C : t")
        self.check("variant t = C exception C", "shape t", "exception C")
        self.check("variant t = A variant t = B", "con A : ?8", "shape t", "con B : t")
        self.check("module M = struct end module M = struct val x = 1 end", "module M = sig", "  val x : int", "end")
        entries = (("val", "x", (0, INT)), ("name", "x", INT), ("con", "x", 0, None, BOOL, 0, (("x", False),)), ("val", "x", (0, BOOL)))
        self.assertEqual(report(entries, BASIS[0]), ["con x : bool", "val x : bool"])
        self.assertEqual(report((("name", "a", INT),), BASIS[0]), [])
        inner = (("module", "M", (("val", "x", (0, INT)), ("name", "a", INT), ("val", "x", (0, BOOL)))),)
        self.assertEqual(report(inner, BASIS[0]), ["module M = sig", "  val x : bool", "end"])

    def test_free_variables(self):
        self.assertEqual(report((("val", "r", (1, arrow(A, ref(pair(X, W))))), ("val", "s", (0, W))), BASIS[0]), ["val r : 'a -> ('_1 * '_2) ref", "val s : '_1"])

    def test_an_open_module_takes_the_name(self):
        self.check("module M = struct variant t = A end open M", "module M = sig", "  alias t = t", "  con A : t", "end", "shape t", "con A : t")

    def test_the_lines_are_a_list_of_strings(self):
        entries, names = declared("val x = 1")
        self.assertEqual(report(entries, names), ["val x : int"])
        self.assertIsInstance(report(entries, names), list)
        self.assertEqual(report(list(entries), list(names)), ["val x : int"])

    def test_a_constructor_whose_scheme_is_too_large(self):
        text = "alias 'a p = 'a * 'a * 'a * 'a * 'a * 'a alias 'a q = 'a p p p variant t = A of (int q * int q) * (int q * (int q * (int q * int q)))"
        entries, names = declared(text)
        line = report(entries, names)[-1]
        self.assertTrue(line.startswith("con A : ((((int * int") or line.startswith("con A : (((int"), line[:60])
        self.assertTrue(line.endswith(" -> t"))
