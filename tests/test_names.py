"""Looking up the names of a phrase: 4.6."""

import copy
import unittest

from shapes import towers
from shapewright.errors import DuplicateName, ShapewrightError, TooLarge, UnknownName, WrongArity
from shapewright.names import check_names
from shapewright.reader import read_expression, read_program
from shapewright.terms import ARITIES, INT, UNIT

G0 = ("v", 0)
DEEP = towers(99, INT)
CONTEXT = ((
    ("shape", "int", 0, INT), ("shape", "list", 1, ("c", 5, (G0,))), ("shape", "deep", 0, DEEP), ("exn", "E", None),
    ("con", "True", 0, None, ("c", 4, ()), 1, (("False", False), ("True", False))), ("con", "False", 0, None, ("c", 4, ()), 0, (("False", False), ("True", False))),
    ("con", "Cons", 1, ("t", (G0, ("c", 5, (G0,)))), ("c", 5, (G0,)), 1, (("Nil", False), ("Cons", True))),
    ("val", "n", (0, INT)), ("val", "f", (1, ("f", G0, G0))), ("val", "+", (0, INT)),
    ("module", "S", (("val", "m", (0, UNIT)), ("exn", "G", None), ("shape", "t", 0, UNIT), ("module", "T", (("val", "k", (0, INT)),)))),
), ARITIES)


class Names(unittest.TestCase):
    def check(self, phrase, kind, name):
        if kind is None:
            self.assertIsNone(check_names(CONTEXT, phrase))
            return
        with self.assertRaises(ShapewrightError) as caught:
            check_names(CONTEXT, phrase)
        self.assertIs(type(caught.exception), kind)
        if kind is not TooLarge:
            self.assertEqual(caught.exception.name, name)

    def expressions(self, rows):
        for text, kind, name in rows:
            with self.subTest(text):
                self.check(read_expression(text), kind, name)

    def declarations(self, rows):
        for text, kind, name in rows:
            with self.subTest(text):
                self.check(read_program(text)[0], kind, name)

    def fine(self, *texts):
        self.expressions([(text, None, None) for text in texts])

    def test_all_names_are_there(self):
        self.fine(
            "3", "()", "n", "E", "S.m", "S.G", "S.T.k", "f n", "n + 1", "(n, E, 3)", "fn x => x", "fn x => fn y => (x, y)", "case n of x => x", "raise E", "n handle E => 1 | x => raise x",
            "n : int", "n : int list", "n : S.t", "let val x = n in x end", "if n then n else n", "n :: n", "fn True => n | S.G => n", "fn (x : int) => x", "fn x as (y, z) => (x, y, z)",
            "fn _ => n", "fn 1 => n", "fn () => n", "fn (_, 1, ()) => (1, ())", "case () of (_ : int) => ()", "fn x as _ => x", "fn True => 1",
        )

    def test_shapes_do_not_matter(self):
        self.fine("3 3", "n n n", "fn True x => x", "fn Cons => 1", "raise 3", "fn x => x x", "3 : deep", "let exception X of deep in X end")

    def test_unknown_values_and_constructors(self):
        self.expressions([
            ("x", UnknownName, ("x",)), ("S.x", UnknownName, ("S", "x")), ("T.k", UnknownName, ("T", "k")), ("S.T.m", UnknownName, ("S", "T", "m")), ("U.S.m", UnknownName, ("U", "S", "m")),
            ("m", UnknownName, ("m",)), ("G", UnknownName, ("G",)), ("S.E", UnknownName, ("S", "E")), ("X", UnknownName, ("X",)), ("n - 1", UnknownName, ("-",)), ("S.( + )", UnknownName, ("S", "+")),
            ("fn X => 1", UnknownName, ("X",)), ("fn X y => y", UnknownName, ("X",)), ("fn S.E => 1", UnknownName, ("S", "E")), ("int", UnknownName, ("int",)), ("S", UnknownName, ("S",)),
        ])

    def test_a_node_comes_before_its_children_in_the_order_of_the_text(self):
        self.expressions([
            ("x y", UnknownName, ("x",)), ("f y z", UnknownName, ("y",)), ("(n, x, y)", UnknownName, ("x",)), ("x - y", UnknownName, ("-",)), ("x + y", UnknownName, ("x",)),
            ("case x of X => y", UnknownName, ("x",)), ("case n of X => y", UnknownName, ("X",)), ("case n of a => b | X => c", UnknownName, ("b",)), ("fn X (Y a) => b", UnknownName, ("X",)),
            ("fn True (Y a) => b", UnknownName, ("Y",)), ("fn (X, Y) => b", UnknownName, ("X",)), ("fn (E, Y) => b", UnknownName, ("Y",)), ("x handle X => y", UnknownName, ("x",)),
            ("n handle X => y", UnknownName, ("X",)), ("raise x", UnknownName, ("x",)), ("x : t", UnknownName, ("x",)), ("n : t", UnknownName, ("t",)), ("(n : t, x)", UnknownName, ("t",)),
            ("fn (X : t) => x", UnknownName, ("X",)), ("fn (y : t) => x", UnknownName, ("t",)), ("fn (y : int) => x", UnknownName, ("x",)), ("fn y as X => x", UnknownName, ("X",)),
            ("let val a = x val b = y in z end", UnknownName, ("x",)), ("let val X = x in z end", UnknownName, ("X",)), ("let val a = n in z end", UnknownName, ("z",)), ("if x then y else z", UnknownName, ("x",)),
            ("if n then y else z", UnknownName, ("y",)), ("x :: y", UnknownName, ("x",)), ("(x; y)", UnknownName, ("x",)),
        ])

    def test_surface_shapes(self):
        self.expressions([
            ("n : t", UnknownName, ("t",)), ("n : 'a", UnknownName, ("svar", "a")), ("n : list", WrongArity, ("list",)), ("n : int int", WrongArity, ("int",)), ("n : S.u", UnknownName, ("S", "u")),
            ("n : (t, 'a) list", WrongArity, ("list",)), ("n : t -> 'a", UnknownName, ("t",)), ("n : 'a -> t", UnknownName, ("svar", "a")), ("n : deep list", TooLarge, None), ("n : deep * deep", TooLarge, None),
            ("fn (x : deep list) => y", TooLarge, None), ("(y, n : deep list)", UnknownName, ("y",)), ("(n : deep list, y)", TooLarge, None), ("n : int : t", UnknownName, ("t",)), ("n : t : u", UnknownName, ("t",)),
        ])

    def test_scopes_of_patterns(self):
        self.fine("fn x => x", "fn (x, y :: z) => (x, y, z)", "fn x as y => (x, y)", "fn ( - ) => 1 - 2", "case n of x => x", "n handle x => raise x", "fn n => fn n => n", "fn Cons (x, y) => x | z => z")
        self.expressions([
            ("(fn x => x) x", UnknownName, ("x",)), ("fn x => x | y => x", UnknownName, ("x",)), ("case x of x => x", UnknownName, ("x",)), ("x handle x => x", UnknownName, ("x",)),
            ("(case n of x => x, x)", UnknownName, ("x",)), ("fn x => y", UnknownName, ("y",)), ("fn x => S.x", UnknownName, ("S", "x")),
        ])

    def test_scopes_of_let(self):
        self.fine(
            "let val x = n val y = x in (x, y) end", "let exception X of int in (X, fn X y => y) end", "let alias t = int in n : t end", "let alias 'a t = 'a list in n : int t end", "let val (x, y) = n in x end",
            "let rec g = fn x => g x in g end", "let rec g = fn x => h x and h = fn x => g x in (g, h) end", "let alias t = int exception X of t in X end",
        )
        self.expressions([
            ("let val x = x in x end", UnknownName, ("x",)), ("let val y = x val x = n in y end", UnknownName, ("x",)), ("(let val x = n in x end, x)", UnknownName, ("x",)),
            ("(let exception X in X end, X)", UnknownName, ("X",)), ("(let alias t = int in n end, n : t)", UnknownName, ("t",)), ("let val y = X exception X in y end", UnknownName, ("X",)),
            ("let exception X of t alias t = int in n end", UnknownName, ("t",)), ("let alias t = t in n end", UnknownName, ("t",)), ("let rec g = fn x => h x rec h = fn x => g x in g end", UnknownName, ("h",)),
            ("let rec g = fn x => g in x end", UnknownName, ("x",)), ("let val x = n in let val y = x in z end end", UnknownName, ("z",)),
        ])

    def test_val(self):
        self.declarations([
            ("val x = n", None, None), ("val x = x", UnknownName, ("x",)), ("val X = y", UnknownName, ("X",)), ("val (x : t) = y", UnknownName, ("t",)), ("val f = f", None, None), ("val x = (X : t)", UnknownName, ("X",)),
        ])

    def test_rec(self):
        self.declarations([
            ("rec g = fn x => g x", None, None), ("rec g = fn x => h x and h = fn x => g x", None, None), ("rec g = fn x => y", UnknownName, ("y",)), ("rec g = fn X => y", UnknownName, ("X",)),
            ("rec g = fn x => y and g = fn x => z", DuplicateName, "g"), ("rec g = fn x => y and h = fn x => z and h = fn x => z and g = fn x => z", DuplicateName, "h"),
            ("rec g : t = fn x => y and g = fn x => z", DuplicateName, "g"), ("rec g = fn x => y and h : t = fn x => z", UnknownName, ("y",)), ("rec g = fn x => x and h : t = fn x => z", UnknownName, ("t",)),
            ("rec g : int -> int = fn x => g x", None, None), ("rec ( - ) = fn x => x - 1", None, None), ("rec g = fn x => x | Y => y", UnknownName, ("Y",)),
        ])

    def test_annotations(self):
        self.declarations([
            ("rec g : t = fn x => y", UnknownName, ("t",)), ("rec g : all 'a 'a . t = fn x => y", DuplicateName, "a"), ("rec g : all 'a . 'b = fn x => y", UnknownName, ("svar", "b")),
            ("rec g : all 'a . 'a -> 'a = fn x => y", UnknownName, ("y",)), ("rec g : list = fn x => y", WrongArity, ("list",)), ("rec g : deep list = fn x => y", TooLarge, None),
            ("rec g : all 'a . 'a -> 'a = fn x : 'a => x : 'a", None, None), ("rec g : all 'a . int = fn x : 'a => x", None, None), ("rec g : all 'a . 'a -> 'a = fn x : 'b => x", UnknownName, ("svar", "b")),
            ("rec g : all 'a . 'a -> 'a = fn x => x and h = fn x : 'a => x", UnknownName, ("svar", "a")), ("rec g = fn x : 'a => x and h : all 'a . 'a -> 'a = fn x => x", UnknownName, ("svar", "a")),
            ("rec g : 'a = fn x => x", UnknownName, ("svar", "a")),
            ("rec g : all 'a . 'a -> 'a = fn x => let rec h : all 'b . 'b -> 'a = fn y : 'b => (x : 'a) in h x end", None, None),
            ("rec g : all 'a . 'a -> 'a = fn x => let rec h : all 'b . 'b -> 'a = fn y => y in x : 'b end", UnknownName, ("svar", "b")),
            ("rec g : all 'a . 'a -> 'a = fn x => let exception X of 'a in x end", None, None), ("rec g : all 'a . 'a -> 'a = fn x => let alias t = 'a in x end", UnknownName, ("svar", "a")),
        ])

    def test_alias_variant_and_exception(self):
        self.declarations([
            ("alias 'a t = 'a list", None, None), ("alias ('a, 'a) t = u", DuplicateName, "a"), ("alias t = u", UnknownName, ("u",)), ("alias t = t", UnknownName, ("t",)), ("alias t = deep list", TooLarge, None),
            ("variant t = A of t", None, None), ("variant t = A | A", DuplicateName, "A"), ("variant t = A of u and t = B", DuplicateName, "t"), ("variant t = A of u", UnknownName, ("u",)),
            ("variant t = A of deep", None, None), ("variant t = A of deep list", TooLarge, None), ("exception X of int", None, None), ("exception X of u", UnknownName, ("u",)), ("exception X of 'a", UnknownName, ("svar", "a")),
            ("exception X of deep", None, None), ("exception X of int list int", WrongArity, ("int",)),
        ])

    def test_nothing_is_changed(self):
        before = copy.deepcopy(CONTEXT)
        check_names(CONTEXT, read_program("rec g : all 'a . 'a -> 'a = fn x => x")[0])
        self.assertEqual(CONTEXT, before)
