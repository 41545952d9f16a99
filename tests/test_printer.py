"""Printing, and reading what is printed: 1.10 and 1.11."""

import unittest

from samples import Maker
from shapewright import trees
from shapewright.printer import (
    print_declaration, print_expression, print_module, print_pattern, print_program, print_shape, print_signature,
)
from shapewright.reader import read_expression, read_pattern, read_program, read_shape

A, B, C, F, X = [("var", (name,)) for name in "abcfx"]
PA, PB, PX, ANY = ("pvar", "a"), ("pvar", "b"), ("pvar", "x"), ("pany",)
INT, T, TA, TB = ("sname", ("int",), ()), ("sname", ("t",), ()), ("svar", "a"), ("svar", "b")
ONE, UNIT = ("int", 1), ("unit",)
PAIR, ARROW, LIST = ("stuple", (INT, T)), ("sarrow", INT, T), ("sname", ("list",), (INT,))
M, N, G, H = ("mpath", ("M",)), ("mpath", ("S", "N")), ("gname", "G"), ("gname", "H")
NO_DECS, NO_SPECS = ("struct", ()), ("sig", ())


def infix(sign, first, second):
    return ("app", ("var", (sign,)), ("tuple", (first, second)))


class Printer(unittest.TestCase):
    def same(self, prints, rows):
        for tree, text in rows:
            self.assertEqual(prints(tree), text)

    def test_shapes(self):
        self.same(print_shape, [
            (TA, "'a"), (INT, "int"), (("sname", ("S", "T", "t"), ()), "S.T.t"), (LIST, "int list"), (("sname", ("t",), (LIST,)), "int list t"),
            (("sname", ("t",), (PAIR,)), "(int * t) t"), (("sname", ("t",), (ARROW,)), "(int -> t) t"), (("sname", ("t",), (TA,)), "'a t"),
            (("sname", ("S", "t"), (TA, INT)), "('a, int) S.t"), (("sname", ("t",), (ARROW, PAIR, LIST)), "(int -> t, int * t, int list) t"),
            (PAIR, "int * t"), (("stuple", (TA, LIST, INT)), "'a * int list * int"), (("stuple", (PAIR, ARROW)), "(int * t) * (int -> t)"),
            (ARROW, "int -> t"), (("sarrow", ARROW, INT), "(int -> t) -> int"), (("sarrow", INT, ARROW), "int -> (int -> t)"),
            (("sarrow", PAIR, PAIR), "(int * t) -> (int * t)"), (("sarrow", LIST, TA), "int list -> 'a"),
        ])

    def test_patterns(self):
        con = ("pcon", ("C",), None)
        self.same(print_pattern, [
            (ANY, "_"), (("punit",), "()"), (PX, "x"), (("pvar", "+"), "( + )"), (("pvar", "~"), "( ~ )"), (("pvar", "div"), "( div )"),
            (("pint", 3), "3"), (("pint", -3), "~3"), (("pint", 0), "0"), (con, "C"), (("pcon", ("S", "C"), None), "S.C"),
            (("pcon", ("C",), PX), "C x"), (("pcon", ("C",), con), "C D".replace("D", "C")), (("pcon", ("C",), ("pcon", ("C",), PX)), "C (C x)"),
            (("pcon", ("C",), ("punit",)), "C ()"), (("pcon", ("C",), ("ptuple", (PA, ANY))), "C (a, _)"), (("pcon", ("C",), ("pvar", "+")), "C ( + )"),
            (("pcon", ("C",), ("pas", "x", ANY)), "C (x as _)"), (("pcon", ("C",), ("phas", PX, INT)), "C (x : int)"), (("pcon", ("C",), ("pint", -1)), "C ~1"),
            (("ptuple", (PA, PB, ANY)), "(a, b, _)"), (("ptuple", (("phas", PA, INT), ("pas", "x", ANY))), "(a : int, x as _)"),
            (("ptuple", (("pcon", ("C",), PX), PA)), "(C x, a)"), (("ptuple", (("pvar", "+"), ("pvar", "*"))), "(( + ), ( * ))"),
            (("pcon", ("Cons",), ("ptuple", (PA, PB))), "a :: b"), (("pcon", ("S", "Cons"), ("ptuple", (PA, PB))), "S.Cons (a, b)"),
            (("pcon", ("Cons",), ("ptuple", (PA, PB, ANY))), "Cons (a, b, _)"), (("pcon", ("Cons",), PX), "Cons x"), (("pcon", ("Cons",), None), "Cons"),
            (("pcon", ("Cons",), ("ptuple", (("pcon", ("C",), PX), ("pcon", ("Cons",), ("ptuple", (PA, PB)))))), "(C x) :: (a :: b)"),
            (("pcon", ("Cons",), ("ptuple", (con, ("phas", PX, T)))), "C :: (x : t)"),
            (("pcon", ("C",), ("pcon", ("Cons",), ("ptuple", (PA, PB)))), "C (a :: b)"),
            (("pas", "x", PA), "x as a"), (("pas", "x", ("pas", "a", PB)), "x as (a as b)"), (("pas", "+", con), "( + ) as C"),
            (("pas", "x", ("pcon", ("C",), ANY)), "x as (C _)"), (("pas", "x", ("phas", ANY, INT)), "x as (_ : int)"),
            (("phas", PX, INT), "x : int"), (("phas", PX, ARROW), "x : int -> t"), (("phas", ("phas", PX, INT), T), "(x : int) : t"),
            (("phas", ("pas", "x", ANY), T), "(x as _) : t"), (("phas", ("pcon", ("C",), PX), T), "(C x) : t"), (("phas", ("ptuple", (PA, PB)), T), "(a, b) : t"),
        ])

    def test_atoms_and_calls(self):
        fn = ("fn", ((PX, A),))
        self.same(print_expression, [
            (ONE, "1"), (("int", -1), "~1"), (UNIT, "()"), (X, "x"), (("var", ("S", "x")), "S.x"), (("con", ("S", "C")), "S.C"),
            (("var", ("+",)), "( + )"), (("var", ("~",)), "( ~ )"), (("var", ("!",)), "( ! )"), (("var", ("S", "+")), "S.( + )"),
            (("tuple", (A, ONE)), "(a, 1)"), (("tuple", (fn, ("has", X, INT), ("app", F, X))), "(fn x => a, x : int, f x)"),
            (("app", F, X), "f x"), (("app", ("app", F, A), B), "(f a) b"), (("app", F, ("app", A, B)), "f (a b)"), (("app", F, ("int", -1)), "f ~1"),
            (("app", ("var", ("~",)), ONE), "( ~ ) 1"), (("app", F, UNIT), "f ()"), (("app", F, ("tuple", (A, B))), "f (a, b)"), (("app", fn, X), "(fn x => a) x"),
            (("app", F, fn), "f (fn x => a)"), (("app", ("let", (("val", PX, A),), F), X), "let val x = a in f end x"), (("app", ("con", ("C",)), X), "C x"),
            (("tuple", (("var", ("*",)), ("var", ("*",)))), "(( * ), ( * ))"), (("app", F, ("var", ("*",))), "f ( * )"),
        ])

    def test_infix(self):
        self.same(print_expression, [
            (infix("+", A, B), "a + b"), (infix("+", infix("+", A, B), C), "(a + b) + c"), (infix("+", A, infix("*", B, C)), "a + (b * c)"),
            (infix("+", ("app", F, A), ONE), "(f a) + 1"), (infix("=", ("tuple", (A, B)), UNIT), "(a, b) = ()"), (infix(":=", X, ("fn", ((PX, A),))), "x := (fn x => a)"),
            (("app", ("con", ("Cons",)), ("tuple", (A, B))), "a :: b"), (("app", ("con", ("Cons",)), ("tuple", (A, ("app", F, B)))), "a :: (f b)"),
            (("app", ("con", ("Cons",)), ("tuple", (A, B, C))), "Cons (a, b, c)"), (("app", ("con", ("Cons",)), X), "Cons x"),
            (("app", ("con", ("S", "Cons")), ("tuple", (A, B))), "S.Cons (a, b)"), (infix("+", A, B)[:2] + (("tuple", (A, B, C)),), "( + ) (a, b, c)"),
            (infix("~", A, B), "( ~ ) (a, b)"), (infix("!", A, B), "( ! ) (a, b)"), (infix("f", A, B), "f (a, b)"),
            (("app", ("var", ("S", "+")), ("tuple", (A, B))), "S.( + ) (a, b)"), (("app", ("var", ("+",)), X), "( + ) x"),
            (("app", F, infix("+", A, B)), "f (a + b)"), (("raise", infix("+", A, B)), "raise (a + b)"), (infix("div", A, ("int", -3)), "a div ~3"),
        ])
        for sign in ("*", "div", "mod", "+", "-", "@", "=", "<>", "<", "<=", ">", ">=", ":="):
            self.assertEqual(print_expression(infix(sign, A, B)), f"a {sign} b")

    def test_words(self):
        fn, case = ("fn", ((PX, A),)), ("case", A, ((PX, B),))
        handle, has = ("handle", A, ((PX, B),)), ("has", A, INT)
        raises, call = ("raise", A), ("app", F, A)
        self.same(print_expression, [
            (fn, "fn x => a"), (("fn", ((ANY, A), (PX, B))), "fn _ => a | x => b"), (case, "case a of x => b"), (handle, "a handle x => b"),
            (raises, "raise a"), (has, "a : int"), (("has", A, ARROW), "a : int -> t"),
            (("fn", ((PX, fn), (ANY, case), (PA, handle))), "fn x => (fn x => a) | _ => (case a of x => b) | a => (a handle x => b)"),
            (("fn", ((PX, raises), (ANY, has), (PA, call))), "fn x => raise a | _ => a : int | a => f a"),
            (("fn", ((("phas", PX, INT), A), (("pas", "x", ANY), B))), "fn x : int => a | x as _ => b"),
            (("case", fn, ((PX, fn),)), "case (fn x => a) of x => (fn x => a)"), (("case", case, ((PX, A),)), "case (case a of x => b) of x => a"),
            (("case", handle, ((PX, A),)), "case (a handle x => b) of x => a"), (("case", raises, ((PX, A),)), "case raise a of x => a"),
            (("case", has, ((PX, call),)), "case a : int of x => f a"), (("case", call, ((PX, has),)), "case f a of x => a : int"),
            (("handle", handle, ((PX, A),)), "(a handle x => b) handle x => a"), (("handle", raises, ((PX, raises),)), "(raise a) handle x => raise a"),
            (("handle", call, ((PX, A),)), "(f a) handle x => a"), (("raise", raises), "raise (raise a)"), (("raise", has), "raise (a : int)"),
            (("has", has, T), "(a : int) : t"), (("has", call, T), "(f a) : t"), (("has", fn, T), "(fn x => a) : t"), (("has", UNIT, T), "() : t"),
            (("case", A, ((("pcon", ("True",), None), B), (("pcon", ("False",), None), C))), "case a of True => b | False => c"),
        ])

    def test_let(self):
        self.same(print_expression, [
            (("let", (("val", PX, A),), B), "let val x = a in b end"), (("let", (("val", PX, A), ("exception", "C", None)), ("fn", ((PX, A),))), "let val x = a exception C in fn x => a end"),
            (("raise", ("let", (("val", PX, A),), B)), "raise let val x = a in b end"),
        ])

    def test_declarations(self):
        rules = ((PX, A),)
        self.same(print_declaration, [
            (("val", PX, ("fn", rules)), "val x = fn x => a"), (("val", ("phas", PX, INT), ("handle", A, rules)), "val x : int = a handle x => a"),
            (("rec", (("f", None, rules),)), "rec f = fn x => a"), (("rec", (("f", ((), ARROW), rules), ("+", None, ((PX, A), (ANY, B))))), "rec f : int -> t = fn x => a and ( + ) = fn x => a | _ => b"),
            (("rec", (("f", (("a", "b"), TA), rules),)), "rec f : all 'a 'b . 'a = fn x => a"), (("rec", (("~", (("a",), TA), rules),)), "rec ( ~ ) : all 'a . 'a = fn x => a"),
            (("alias", (), "t", ARROW), "alias t = int -> t"), (("alias", ("a",), "t", TA), "alias 'a t = 'a"), (("alias", ("a", "b"), "t", PAIR), "alias ('a, 'b) t = int * t"),
            (("exception", "C", None), "exception C"), (("exception", "C", PAIR), "exception C of int * t"),
            (("variant", (((), "t", (("C", None), ("D", ARROW))), (("a",), "u", (("E", TA),)), (("a", "b"), "v", (("H", None),)))), "variant t = C | D of int -> t and 'a u = E of 'a and ('a, 'b) v = H"),
            (("open", ("S", "T")), "open S.T"), (("module", "X", M), "module X = M"), (("module", "X", ("sees", M, G)), "module X = M : G"),
            (("functor", "F", "X", G, M), "functor F (X : G) = M"), (("functor", "F", "X", ("where", G, ("t",), (), INT), ("seals", M, H)), "functor F (X : G where t = int) = M :> H"),
            (("signature", "G", H), "signature G = H"), (("signature", "G", ("where", H, ("t",), (), INT)), "signature G = H where t = int"),
        ])

    def test_modules(self):
        apply, sees, seals = ("apply", ("S", "F"), M), ("sees", M, G), ("seals", M, G)
        mlet = ("mlet", (("val", PX, A), ("open", ("M",))), sees)
        self.same(print_module, [
            (NO_DECS, "struct end"), (("struct", (("val", PX, A), ("open", ("M",)))), "struct val x = a open M end"), (N, "S.N"), (apply, "S.F (M)"),
            (("apply", ("F",), apply), "F (S.F (M))"), (("apply", ("F",), sees), "F (M : G)"), (sees, "M : G"), (seals, "M :> G"), (("sees", seals, G), "(M :> G) : G"),
            (("seals", sees, G), "(M : G) :> G"), (("sees", apply, NO_SPECS), "S.F (M) : sig end"), (("seals", NO_DECS, ("where", G, ("t",), (), INT)), "struct end :> (G where t = int)"),
            (mlet, "let val x = a open M in M : G end"), (("sees", mlet, G), "let val x = a open M in M : G end : G"), (("mlet", (("val", PX, A),), mlet), "let val x = a in let val x = a open M in M : G end end"),
        ])

    def test_signatures(self):
        where = ("where", G, ("t",), (), INT)
        specs = (
            ("val", "x", ((), ARROW)), ("val", "+", (("a", "b"), TA)), ("shape", (), "t"), ("shape", ("a",), "t"), ("shape", ("a", "b"), "t"), ("alias", (), "t", INT),
            ("variant", (((), "t", (("C", None),)),)), ("exception", "C", INT), ("module", "X", G), ("module", "X", where), ("include", G), ("include", where),
        )
        self.same(print_signature, [
            (NO_SPECS, "sig end"), (G, "G"), (where, "G where t = int"), (("where", where, ("S", "u"), ("a",), TA), "(G where t = int) where 'a S.u = 'a"),
            (("where", NO_SPECS, ("u",), ("a", "b"), ARROW), "sig end where ('a, 'b) u = int -> t"),
            (("sig", specs), "sig val x : int -> t val ( + ) : all 'a 'b . 'a shape t shape 'a t shape ('a, 'b) t alias t = int variant t = C exception C of int "
             "module X : G module X : G where t = int include G include (G where t = int) end"),
        ])

    def test_programs(self):
        self.assertEqual(print_program(()), "")
        self.assertEqual(print_program((("val", PX, A),)), "val x = a")
        program = (("val", PX, A), ("signature", "G", NO_SPECS), ("module", "X", ("struct", (("val", PX, A), ("open", ("M",))))))
        self.assertEqual(print_program(program), "val x = a\nsignature G = sig end\nmodule X = struct val x = a open M end")

    def test_the_example(self):
        tree = ("app", ("fn", ((("pvar", "x"), ("app", ("var", ("+",)), ("tuple", (("var", ("x",)), ("int", -1))))),)), ("int", 2))
        self.assertEqual(print_expression(tree), "(fn x => x + ~1) 2")


class RoundTrip(unittest.TestCase):
    WAYS = {
        "program": (print_program, read_program), "expression": (print_expression, read_expression),
        "pattern": (print_pattern, read_pattern), "shape": (print_shape, read_shape),
    }

    def holds(self, nodes, deep, seeds):
        greatest = [0, 0]
        texts = {}
        for seed in seeds:
            maker = Maker(seed, nodes, deep)
            for kind, (prints, reads) in self.WAYS.items():
                tree = maker.tree(kind)
                if not getattr(trees, f"is_{kind}")(tree):
                    continue
                text = prints(tree)
                self.assertEqual(reads(text), tree)
                self.assertEqual(texts.setdefault((kind, text), tree), tree)
                self.assertTrue("  " not in text and text == text.strip())
                greatest = [max(greatest[0], trees.count_nodes(tree)), max(greatest[1], trees.depth(tree))]
        return greatest

    def test_small_trees(self):
        self.holds(15, 4, range(400))

    def test_large_trees(self):
        count, deep = self.holds(390, 14, range(150))
        self.assertGreater(count, 380)
        self.assertEqual(deep, 14)

    def test_declarations_modules_and_signatures(self):
        for seed in range(150):
            maker = Maker(seed, 60, 8)
            declaration, module, signature = maker.tree("declaration"), maker.tree("module"), maker.tree("signature")
            self.assertEqual(read_program(print_declaration(declaration)), (declaration,))
            self.assertEqual(read_program("module X = " + print_module(module)), (("module", "X", module),))
            self.assertEqual(read_program("signature G = " + print_signature(signature)), (("signature", "G", signature),))

    def test_the_deepest_trees(self):
        rule = ((("pas", "x", ("phas", ANY, ARROW)), None),)
        makers = [
            lambda e: ("fn", ((rule[0][0], e),)), lambda e: ("case", e, ((ANY, UNIT),)), lambda e: ("handle", UNIT, ((ANY, e),)),
            lambda e: ("raise", e), lambda e: ("app", e, UNIT), lambda e: ("app", UNIT, e), lambda e: ("has", e, ARROW),
            lambda e: ("let", (("rec", (("f", None, ((ANY, UNIT),)),)),), e), lambda e: ("tuple", (UNIT, e)), lambda e: ("handle", e, ((ANY, UNIT),)),
        ]
        for first in makers:
            for second in makers:
                tree = UNIT
                for index in range(10):
                    tree = first(tree) if index % 2 else second(tree)
                self.assertTrue(trees.is_expression(tree))
                self.assertEqual(read_expression(print_expression(tree)), tree)
        for make in (lambda p: ("pas", "x", p), lambda p: ("pcon", ("C",), p), lambda p: ("phas", p, INT), lambda p: ("ptuple", (p, ANY))):
            pattern = ANY
            for _ in range(12):
                pattern = make(pattern) if make(PX)[0] != "pas" else ("pas", f"x{trees.depth(pattern)}", pattern)
            self.assertEqual(read_pattern(print_pattern(pattern)), pattern)
