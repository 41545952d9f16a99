"""The grammar and how trees are built: 1.7 and 1.8."""

import random
import unittest

from shapewright.errors import BadText, NotWellFormed
from shapewright.reader import read_expression, read_pattern, read_program, read_shape


def var(name):
    return ("var", (name,))


def infix(sign, first, second):
    return ("app", var(sign), ("tuple", (first, second)))


def cons(first, second):
    return ("app", ("con", ("Cons",)), ("tuple", (first, second)))


def choice(test, yes, no):
    return ("case", test, ((("pcon", ("True",), None), yes), (("pcon", ("False",), None), no)))


A, B, C, D, F, X = var("a"), var("b"), var("c"), var("d"), var("f"), var("x")
PA, PB, PC, PX = ("pvar", "a"), ("pvar", "b"), ("pvar", "c"), ("pvar", "x")
INT, T, U = ("sname", ("int",), ()), ("sname", ("t",), ()), ("sname", ("u",), ())
TA, TB = ("svar", "a"), ("svar", "b")
TRUE, FALSE = ("con", ("True",)), ("con", ("False",))


class Case(unittest.TestCase):
    def same(self, read, rows):
        for text, tree in rows:
            self.assertEqual(read(text), tree, text)

    def bad(self, read, rows):
        for text, at in rows:
            with self.assertRaises(BadText, msg=text) as caught:
                read(text)
            self.assertEqual(caught.exception.at, at, text)


class Shapes(Case):
    def test_shapes(self):
        self.same(read_shape, [
            ("'a", TA), ("int", INT), ("S.T.int", ("sname", ("S", "T", "int"), ())), ("(int)", INT), ("((('a)))", TA),
            ("int list", ("sname", ("list",), (INT,))), ("'a list S.t", ("sname", ("S", "t"), (("sname", ("list",), (TA,)),))),
            ("(int) list", ("sname", ("list",), (INT,))), ("(int, 'a) t", ("sname", ("t",), (INT, TA))),
            ("(int, 'a, t, u) S.t", ("sname", ("S", "t"), (INT, TA, T, U))),
            ("int * t", ("stuple", (INT, T))), ("int * t * u", ("stuple", (INT, T, U))),
            ("int * t * u * int * t * u", ("stuple", (INT, T, U, INT, T, U))),
            ("(int * t) * u", ("stuple", (("stuple", (INT, T)), U))), ("int * (t * u)", ("stuple", (INT, ("stuple", (T, U))))),
            ("int -> t", ("sarrow", INT, T)), ("int -> t -> u", ("sarrow", INT, ("sarrow", T, U))),
            ("(int -> t) -> u", ("sarrow", ("sarrow", INT, T), U)),
            ("int * t -> u * int", ("sarrow", ("stuple", (INT, T)), ("stuple", (U, INT)))),
            ("int t * 'a u", ("stuple", (("sname", ("t",), (INT,)), ("sname", ("u",), (TA,))))),
            ("(int -> t, t * u) u", ("sname", ("u",), (("sarrow", INT, T), ("stuple", (T, U))))),
            ("(int * t) u", ("sname", ("u",), (("stuple", (INT, T)),))), ("(* x *) int(* y *)\n", INT),
        ])

    def test_wrong_shapes(self):
        self.bad(read_shape, [
            ("", 0), ("  ", 2), ("int ->", 6), ("-> int", 0), ("int *", 5), ("()", 1), ("(int", 4), ("(int, t)", 8),
            ("(int, t) 'a", 9), ("(int,) t", 5), ("int )", 4), ("S", 1), ("S.", 2), ("S.T", 3), ("S.'a", 2), ("int.t", 3),
            ("int S * t", 6), ("int S", 5), ("'a 'b", 3), ("int 3", 4), ("Int t", 4), ("val", 0), ("_", 0), ("(int -> t", 9),
            ("int, t", 3), ("'a.t", 2), ("all 'a . 'a", 0),
        ])


class Patterns(Case):
    def test_patterns(self):
        self.same(read_pattern, [
            ("_", ("pany",)), ("()", ("punit",)), ("x", PX), ("( + )", ("pvar", "+")), ("( ~ )", ("pvar", "~")),
            ("(!)", ("pvar", "!")), ("(div)", ("pvar", "div")), ("3", ("pint", 3)), ("~3", ("pint", -3)),
            ("C", ("pcon", ("C",), None)), ("S.T.C", ("pcon", ("S", "T", "C"), None)), ("C x", ("pcon", ("C",), PX)),
            ("S.C 3", ("pcon", ("S", "C"), ("pint", 3))), ("C D", ("pcon", ("C",), ("pcon", ("D",), None))),
            ("C (D x)", ("pcon", ("C",), ("pcon", ("D",), PX))), ("C ()", ("pcon", ("C",), ("punit",))),
            ("C _", ("pcon", ("C",), ("pany",))), ("C ( + )", ("pcon", ("C",), ("pvar", "+"))),
            ("C (a, b)", ("pcon", ("C",), ("ptuple", (PA, PB)))), ("(x)", PX), ("((x))", PX), ("(a, b)", ("ptuple", (PA, PB))),
            ("(a, b, c, _, 1, ())", ("ptuple", (PA, PB, PC, ("pany",), ("pint", 1), ("punit",)))),
            ("a :: b", ("pcon", ("Cons",), ("ptuple", (PA, PB)))),
            ("a :: b :: c", ("pcon", ("Cons",), ("ptuple", (PA, ("pcon", ("Cons",), ("ptuple", (PB, PC))))))),
            ("(a :: b) :: c", ("pcon", ("Cons",), ("ptuple", (("pcon", ("Cons",), ("ptuple", (PA, PB))), PC)))),
            ("C a :: D", ("pcon", ("Cons",), ("ptuple", (("pcon", ("C",), PA), ("pcon", ("D",), None))))),
            ("C D :: a", ("pcon", ("Cons",), ("ptuple", (("pcon", ("C",), ("pcon", ("D",), None)), PA)))),
            ("x : int", ("phas", PX, INT)), ("x : int : t", ("phas", ("phas", PX, INT), T)),
            ("a :: b : t", ("phas", ("pcon", ("Cons",), ("ptuple", (PA, PB))), T)), ("x : int -> t", ("phas", PX, ("sarrow", INT, T))),
            ("x as y", ("pas", "x", ("pvar", "y"))), ("x as y as _", ("pas", "x", ("pas", "y", ("pany",)))),
            ("x as a :: b", ("pas", "x", ("pcon", ("Cons",), ("ptuple", (PA, PB))))),
            ("x as y : int", ("pas", "x", ("phas", ("pvar", "y"), INT))), ("(x as _) : t", ("phas", ("pas", "x", ("pany",)), T)),
            ("( + ) as _", ("pas", "+", ("pany",))), ("(x as a, b : t)", ("ptuple", (("pas", "x", PA), ("phas", PB, T)))),
            ("Cons (a, b)", ("pcon", ("Cons",), ("ptuple", (PA, PB)))),
        ])

    def test_wrong_patterns(self):
        self.bad(read_pattern, [
            ("", 0), ("x y", 2), ("C x y", 4), ("C D x", 4), ("(x", 2), ("(x,", 3), ("(x,)", 3), ("x as", 4), ("3 as x", 2),
            ("(x) as y", 4), ("C as x", 2), ("C x as y", 4), ("a :: x as y", 7), ("x :", 3), ("a ::", 4), ("+", 0), ("~", 0),
            ("( + x)", 4), ("( +", 3), ("(~ 1)", 3), ("S.x", 2), ("S.", 2), ("fn", 0), ("x : t as y", 6), ("x : t :: y", 6),
            ("_ x", 2), ("1 2", 2), ("x = y", 2), ("'a", 0), ("C 1 2", 4), ("x.y", 1),
        ])


class Atoms(Case):
    def test_atoms(self):
        self.same(read_expression, [
            ("3", ("int", 3)), ("~3", ("int", -3)), ("x", X), ("()", ("unit",)), ("( )", ("unit",)), ("C", ("con", ("C",))),
            ("S.C", ("con", ("S", "C"))), ("S.T.x", ("var", ("S", "T", "x"))), ("( + )", var("+")), ("(div)", var("div")),
            ("(:=)", var(":=")), ("~", var("~")), ("!", var("!")), ("( ~ )", var("~")), ("(!)", var("!")),
            ("S.( + )", ("var", ("S", "+"))), ("S.(~)", ("var", ("S", "~"))), ("S.T.( ! )", ("var", ("S", "T", "!"))),
            ("(x)", X), ("((x))", X), ("(a, b)", ("tuple", (A, B))), ("(a, b, c, a, b, c)", ("tuple", (A, B, C) * 2)),
        ])
        for sign in ("*", "div", "mod", "+", "-", "@", "=", "<>", "<", "<=", ">", ">=", ":="):
            self.assertEqual(read_expression(f"( {sign} )"), var(sign))

    def test_calls(self):
        self.same(read_expression, [
            ("f a", ("app", F, A)), ("f a b", ("app", ("app", F, A), B)), ("f (a b)", ("app", F, ("app", A, B))),
            ("~ x", ("app", var("~"), X)), ("! x", ("app", var("!"), X)), ("!x", ("app", var("!"), X)), ("f ~ x", ("app", ("app", F, var("~")), X)),
            ("f ! x", ("app", ("app", F, var("!")), X)), ("f ~3", ("app", F, ("int", -3))), ("(~ x)", ("app", var("~"), X)), ("C x", ("app", ("con", ("C",)), X)),
            ("f S.x C", ("app", ("app", F, ("var", ("S", "x"))), ("con", ("C",)))), ("f ()", ("app", F, ("unit",))),
            ("f ( + ) a", ("app", ("app", F, var("+")), A)), ("f let val x = a in b end", ("app", F, ("let", (("val", PX, A),), B))),
            ("( + ) (a, b)", infix("+", A, B)), ("Cons (a, b)", cons(A, B)),
        ])

    def test_sequences(self):
        any_a = (("pany",), A)
        self.same(read_expression, [
            ("(b; a)", ("case", B, (any_a,))), ("(c; b; a)", ("case", C, ((("pany",), ("case", B, (any_a,))),))),
            ("(fn x => a; b)", ("case", ("fn", ((PX, A),)), ((("pany",), B),))),
        ])

    def test_wrong_atoms(self):
        self.bad(read_expression, [
            ("", 0), (" \n", 2), (")", 0), ("(", 1), ("(a", 2), ("(a,", 3), ("(a,)", 3), ("(a;)", 3), ("(a, b; c)", 5),
            ("(a; b, c)", 5), ("( + a)", 4), ("( +", 3), ("a )", 2), ("1 + )", 4), ("+", 0), ("a +", 3), ("a + + b", 4),
            ("S.", 2), ("S.3", 2), ("S.(", 3), ("S.(a)", 3), ("S.( + a", 6), ("S.~", 2), ("x.y", 1), ("a fn x => b", 2),
            ("a + fn x => b", 4), ("f case a of b => c", 2), ("a 'b", 2), ("_", 0), ("a = = b", 4), ("f raise a", 2),
            ("a :: if a then b else c", 5), ("end", 0), ("a end", 2), ("val", 0), ("(,)", 1), ("(;)", 1), ("a, b", 1), ("a; b", 1),
        ])


class Operators(Case):
    LEVELS = (("*", "div", "mod"), ("+", "-"), ("::", "@"), ("=", "<>", "<", "<=", ">", ">="), (":=",))

    def node(self, sign, first, second):
        return cons(first, second) if sign == "::" else infix(sign, first, second)

    def test_each_operator(self):
        for row in self.LEVELS:
            for sign in row:
                self.assertEqual(read_expression(f"a {sign} b"), self.node(sign, A, B))
                self.assertEqual(read_expression(f"f a {sign} b c"), self.node(sign, ("app", F, A), ("app", B, C)))

    def test_levels_and_sides(self):
        signs = [(sign, level) for level, row in enumerate(self.LEVELS) for sign in row]
        for first, high in signs:
            for second, low in signs:
                tree = read_expression(f"a {first} b {second} c")
                left = high < low or (high == low and first not in ("::", "@"))
                if left:
                    self.assertEqual(tree, self.node(second, self.node(first, A, B), C), (first, second))
                else:
                    self.assertEqual(tree, self.node(first, A, self.node(second, B, C)), (first, second))

    def test_four_operands(self):
        self.same(read_expression, [
            ("a - b - c - d", infix("-", infix("-", infix("-", A, B), C), D)),
            ("a :: b @ c :: d", cons(A, infix("@", B, cons(C, D)))),
            ("a := b = c + d", infix(":=", A, infix("=", B, infix("+", C, D)))),
            ("a * b + c = d", infix("=", infix("+", infix("*", A, B), C), D)),
            ("a + b * c :: d", cons(infix("+", A, infix("*", B, C)), D)),
            ("a = b :: c = d", infix("=", infix("=", A, cons(B, C)), D)), ("a = b * c + d", infix("=", A, infix("+", infix("*", B, C), D))),
            ("a :: b * c + d", cons(A, infix("+", infix("*", B, C), D))), ("a := b + c * d - x", infix(":=", A, infix("-", infix("+", B, infix("*", C, D)), X))),
        ])

    def plainly(self, words, level):
        """The tree of operands and signs in turn: the last sign of a level to the left, the first one to the right."""
        if len(words) == 1:
            return var(words[0])
        places = [at for at in range(1, len(words), 2) if words[at] in self.LEVELS[level]]
        if not places:
            return self.plainly(words, level - 1)
        at = places[0] if words[places[0]] in ("::", "@") else places[-1]
        return self.node(words[at], self.plainly(words[:at], level), self.plainly(words[at + 1:], level))

    def test_long_operations(self):
        signs = [sign for row in self.LEVELS for sign in row]
        for seed in range(300):
            source = random.Random(seed)
            words = ["a"]
            for _ in range(source.choice((3, 5, 7))):
                words.extend([source.choice(signs), source.choice("abcdx")])
            try:
                tree = read_expression(" ".join(words))
            except NotWellFormed:
                continue
            self.assertEqual(tree, self.plainly(words, 4), words)

    def test_andalso_and_orelse(self):
        self.same(read_expression, [
            ("a andalso b", choice(A, B, FALSE)), ("a orelse b", choice(A, TRUE, B)),
            ("a andalso b andalso c", choice(A, choice(B, C, FALSE), FALSE)), ("a orelse b orelse c", choice(A, TRUE, choice(B, TRUE, C))),
            ("a andalso b orelse c", choice(choice(A, B, FALSE), TRUE, C)), ("a orelse b andalso c", choice(A, TRUE, choice(B, C, FALSE))),
            ("a := b andalso c", choice(infix(":=", A, B), C, FALSE)), ("a orelse b = c", choice(A, TRUE, infix("=", B, C))),
            ("a andalso b orelse c andalso d", choice(choice(A, B, FALSE), TRUE, choice(C, D, FALSE))),
        ])

    def test_ascriptions(self):
        self.same(read_expression, [
            ("x : int", ("has", X, INT)), ("x : int : t", ("has", ("has", X, INT), T)), ("a + b : int", ("has", infix("+", A, B), INT)),
            ("a orelse b : t", ("has", choice(A, TRUE, B), T)), ("x : int * t -> u", ("has", X, ("sarrow", ("stuple", (INT, T)), U))),
            ("(x : int) + a", infix("+", ("has", X, INT), A)), ("f x : int list", ("has", ("app", F, X), ("sname", ("list",), (INT,)))),
        ])
        self.bad(read_expression, [("x : int + a", 8), ("x : ", 4), ("x : int = a", 8), ("x :: int : t 3", 13), ("x : 3", 4)])


class Keywords(Case):
    def test_rules(self):
        self.same(read_expression, [
            ("fn x => a", ("fn", ((PX, A),))), ("fn 1 => a | _ => b", ("fn", ((("pint", 1), A), (("pany",), B)))),
            ("case a of x => b", ("case", A, ((PX, B),))), ("case a of 1 => b | x => c", ("case", A, ((("pint", 1), B), (PX, C)))),
            ("fn x => fn a => b | c => d", ("fn", ((PX, ("fn", ((PA, B), (PC, D)))),))),
            ("fn x => (fn a => b) | c => d", ("fn", ((PX, ("fn", ((PA, B),))), (PC, D)))),
            ("case a of x => case b of 1 => c | _ => d", ("case", A, ((PX, ("case", B, ((("pint", 1), C), (("pany",), D)))),))),
            ("case case a of x => b of c => d", ("case", ("case", A, ((PX, B),)), ((PC, D),))),
            ("fn x : int => a", ("fn", ((("phas", PX, INT), A),))),
        ])

    def test_if_and_raise(self):
        self.same(read_expression, [
            ("if a then b else c", choice(A, B, C)), ("if a then b else if c then d else x", choice(A, B, choice(C, D, X))),
            ("if if a then b else c then d else x", choice(choice(A, B, C), D, X)),
            ("if a then fn x => b else c", choice(A, ("fn", ((PX, B),)), C)),
            ("raise a", ("raise", A)), ("raise raise a", ("raise", ("raise", A))), ("raise a : t", ("raise", ("has", A, T))),
            ("raise a b + c", ("raise", infix("+", ("app", A, B), C))), ("raise a handle x => b", ("raise", ("handle", A, ((PX, B),)))),
            ("if a then b else c : t", choice(A, B, ("has", C, T))),
        ])

    def test_handle(self):
        self.same(read_expression, [
            ("a handle x => b", ("handle", A, ((PX, B),))), ("a handle 1 => b | _ => c", ("handle", A, ((("pint", 1), B), (("pany",), C)))),
            ("a + b handle x => c", ("handle", infix("+", A, B), ((PX, C),))), ("a : t handle x => c", ("handle", ("has", A, T), ((PX, C),))),
            ("a handle x => b handle c => d", ("handle", A, ((PX, ("handle", B, ((PC, D),))),))),
            ("case a of x => b handle c => d | _ => a", ("case", A, ((PX, ("handle", B, ((PC, D), (("pany",), A)))),))),
            ("fn x => a handle c => d", ("fn", ((PX, ("handle", A, ((PC, D),))),))),
        ])

    def test_let(self):
        self.same(read_expression, [
            ("let val x = a in b end", ("let", (("val", PX, A),), B)),
            ("let val x = a val b = c in d end", ("let", (("val", PX, A), ("val", PB, C)), D)),
            ("let alias t = int exception C of t rec f = fn x => a in b end",
             ("let", (("alias", (), "t", INT), ("exception", "C", T), ("rec", (("f", None, ((PX, A),)),))), B)),
            ("let val x = fn a => b val c = d in x end", ("let", (("val", PX, ("fn", ((PA, B),))), ("val", PC, D)), X)),
        ])

    def test_wrong_keywords(self):
        self.bad(read_expression, [
            ("fn", 2), ("fn x", 4), ("fn x = a", 5), ("fn => a", 3), ("fn x =>", 7), ("fn x => a |", 11), ("fn x => a | b", 13),
            ("case a", 6), ("case a of", 9), ("case a x => b of", 9), ("if a", 4), ("if a then b", 11), ("if a else b", 5),
            ("raise", 5), ("a handle", 8), ("handle x => a", 0), ("a handle b", 10), ("let in a end", 4), ("let val x = a end", 14),
            ("let val x = a in end", 17), ("let val x = a in b", 18), ("let val x in b end", 10), ("let module X = Y in a end", 4),
            ("let variant t = C in a end", 4), ("let open S in a end", 4), ("let val x = a in b end end", 23), ("a of", 2), ("| a", 0),
            ("let val x = a signature", 14), ("(a handle x => b : int) handle", 30),
        ])


class Declarations(Case):
    def test_core(self):
        self.same(read_program, [
            ("", ()), (" (* none *) \n", ()), ("val x = a", (("val", PX, A),)), ("val (a, _) = b", (("val", ("ptuple", (PA, ("pany",))), B),)),
            ("val x : int = a", (("val", ("phas", PX, INT), A),)), ("val x = a = b", (("val", PX, infix("=", A, B)),)),
            ("val x = a val b = c", (("val", PX, A), ("val", PB, C))), ("val x = a\nval b = c\n", (("val", PX, A), ("val", PB, C))),
            ("rec f = fn x => a", (("rec", (("f", None, ((PX, A),)),)),)),
            ("rec f : int = fn x => a | b => c", (("rec", (("f", ((), INT), ((PX, A), (PB, C))),)),)),
            ("rec ( + ) : all 'a . 'a -> t = fn x => a", (("rec", (("+", (("a",), ("sarrow", TA, T)), ((PX, A),)),)),)),
            ("rec f = fn x => a and g = fn x => b and h : t = fn x => c",
             (("rec", (("f", None, ((PX, A),)), ("g", None, ((PX, B),)), ("h", ((), T), ((PX, C),)))),)),
            ("alias t = int", (("alias", (), "t", INT),)), ("alias 'a t = 'a", (("alias", ("a",), "t", TA),)),
            ("alias ('a) t = 'a", (("alias", ("a",), "t", TA),)), ("alias ('a, 'b) t = 'b * 'a", (("alias", ("a", "b"), "t", ("stuple", (TB, TA))),)),
            ("exception C", (("exception", "C", None),)), ("exception C of int * t", (("exception", "C", ("stuple", (INT, T))),)),
            ("rec f : all 'a 'b . 'a -> 'b = fn x => a", (("rec", (("f", (("a", "b"), ("sarrow", TA, TB)), ((PX, A),)),)),)),
        ])

    def test_variants(self):
        self.same(read_program, [
            ("variant t = C", (("variant", (((), "t", (("C", None),)),)),)),
            ("variant 'a t = C | D of 'a | E of int -> t", (("variant", ((("a",), "t", (("C", None), ("D", TA), ("E", ("sarrow", INT, T)))),)),)),
            ("variant ('a, 'b) t = C and u = D of t",
             (("variant", ((("a", "b"), "t", (("C", None),)), ((), "u", (("D", T),)))),)),
        ])

    def test_modules(self):
        m, n, g = ("mpath", ("M",)), ("mpath", ("N", "O")), ("gname", "G")
        self.same(read_program, [
            ("module X = M", (("module", "X", m),)), ("module X = N.O", (("module", "X", n),)), ("open M", (("open", ("M",)),)),
            ("open N.O", (("open", ("N", "O")),)), ("module X = struct end", (("module", "X", ("struct", ())),)),
            ("module X = struct val x = a open M end", (("module", "X", ("struct", (("val", PX, A), ("open", ("M",))))),)),
            ("module X = F (M)", (("module", "X", ("apply", ("F",), m)),)), ("module X = S.F (F (M))", (("module", "X", ("apply", ("S", "F"), ("apply", ("F",), m))),)),
            ("module X = (M)", (("module", "X", m),)), ("module X = M : G", (("module", "X", ("sees", m, g)),)),
            ("module X = M :> G", (("module", "X", ("seals", m, g)),)), ("module X = M : G :> G", (("module", "X", ("seals", ("sees", m, g), g)),)),
            ("module X = M :> G : G", (("module", "X", ("sees", ("seals", m, g), g)),)), ("module X = F (M : G)", (("module", "X", ("apply", ("F",), ("sees", m, g))),)),
            ("module X = let val x = a in M end", (("module", "X", ("mlet", (("val", PX, A),), m)),)),
            ("module X = let open M variant t = C in M : G end",
             (("module", "X", ("mlet", (("open", ("M",)), ("variant", (((), "t", (("C", None),)),))), ("sees", m, g))),)),
            ("functor F (X : G) = M", (("functor", "F", "X", g, m),)),
            ("functor F (X : sig end where t = int) = struct end : G",
             (("functor", "F", "X", ("where", ("sig", ()), ("t",), (), INT), ("sees", ("struct", ()), g)),)),
            ("module X = struct module Y = struct end end val x = a",
             (("module", "X", ("struct", (("module", "Y", ("struct", ())),))), ("val", PX, A))),
        ])

    def test_signatures(self):
        g = ("gname", "G")
        self.same(read_program, [
            ("signature G = H", (("signature", "G", ("gname", "H")),)), ("signature G = (H)", (("signature", "G", ("gname", "H")),)),
            ("signature G = sig end", (("signature", "G", ("sig", ())),)),
            ("signature G = sig val x : int val ( + ) : all 'a . 'a end",
             (("signature", "G", ("sig", (("val", "x", ((), INT)), ("val", "+", (("a",), TA))))),)),
            ("signature G = sig shape t shape 'a u shape ('a, 'b) v end",
             (("signature", "G", ("sig", (("shape", (), "t"), ("shape", ("a",), "u"), ("shape", ("a", "b"), "v")))),)),
            ("signature G = sig alias t = int variant t = C and u = D exception C of t end",
             (("signature", "G", ("sig", (("alias", (), "t", INT), ("variant", (((), "t", (("C", None),)), ((), "u", (("D", None),)))), ("exception", "C", T)))),)),
            ("signature G = sig module X : G include G include sig end end",
             (("signature", "G", ("sig", (("module", "X", g), ("include", g), ("include", ("sig", ()))))),)),
            ("signature G = G where t = int", (("signature", "G", ("where", g, ("t",), (), INT)),)),
            ("signature G = G where 'a S.t = 'a where ('a, 'b) u = int",
             (("signature", "G", ("where", ("where", g, ("S", "t"), ("a",), TA), ("u",), ("a", "b"), INT)),)),
            ("signature G = (G where t = int) where u = t", (("signature", "G", ("where", ("where", g, ("t",), (), INT), ("u",), (), T)),)),
            ("module X = M : G where t = int", (("module", "X", ("sees", ("mpath", ("M",)), ("where", g, ("t",), (), INT))),)),
            ("signature G = sig module X : G where t = int val x : t end",
             (("signature", "G", ("sig", (("module", "X", ("where", g, ("t",), (), INT)), ("val", "x", ((), T))))),)),
        ])

    def test_wrong_declarations(self):
        self.bad(read_program, [
            ("x", 0), ("val", 3), ("val x", 5), ("val x =", 7), ("val x = a b c =", 15), ("val 3 as x = a", 6), ("rec f = a", 8), ("rec f", 5),
            ("rec 3", 4), ("rec (x) = fn", 5), ("rec f : = fn x => a", 8), ("rec f : all . t = fn", 12), ("rec f : all 'a 'b t", 18),
            ("rec f = fn x => a and", 21), ("alias t int", 8), ("alias 'a", 8), ("alias 'a 'b t = int", 9), ("alias () t = int", 7),
            ("alias ('a 'b) t = int", 10), ("alias ('a,) t = int", 10), ("alias T = int", 6), ("exception c", 10), ("exception C of", 14),
            ("exception C int", 12), ("variant t", 9), ("variant t = c", 12), ("variant t = C |", 15), ("variant t = C of", 16),
            ("variant t = C and", 17), ("variant t = C, D", 13), ("module x = M", 7), ("module X M", 9), ("module X =", 10),
            ("module X = S.", 13), ("module X = S.t", 13), ("module X = F (M", 15), ("module X = F ()", 14), ("module X = F (M) (N)", 17),
            ("module X = struct val x = a", 27), ("module X = struct x end", 18), ("module X = M :", 14), ("module X = M : 3", 15),
            ("module X = let in M end", 15), ("module X = let val x = a in end", 28), ("functor F = M", 10), ("functor F (X) = M", 12),
            ("functor F (X : G = M", 17), ("functor f", 8), ("open", 4), ("open x", 5), ("open S.x", 7), ("signature g", 10),
            ("signature G", 11), ("signature G = struct end", 14), ("signature G = S.G", 15), ("module X = struct signature G = H end", 18),
            ("signature G = sig val X : int end", 22), ("signature G = sig val x = int end", 24), ("signature G = sig shape t = int end", 26),
            ("signature G = sig open S end", 18), ("signature G = sig rec f = fn x => a end", 18), ("signature G = sig module X = M end", 27),
            ("signature G = sig include end", 26), ("signature G = G where t", 23), ("signature G = G where T = int", 24),
            ("signature G = G where t : int", 24), ("signature G = sig val x : int", 29), ("module X = M end", 13), ("val x = a in", 10),
            ("val x = a; val y = b", 9), ("module X = M.N (M).T", 18),
        ])
