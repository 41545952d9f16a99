"""Lowering: points 6.18 to 6.21."""

import copy
import unittest

from deriver import BASIS
from shapewright.context import extended
from shapewright.lower import lower, lower_pattern, record, thinned, wrap
from shapewright.plain import is_pattern, is_plain
from shapewright.reader import read_expression, read_pattern, read_program
from shapewright.steps import run
from shapewright.structures import declare_all
from shapewright.terms import INT

G0 = ("v", 0)
LIST, BOOL, OPTION = (("Nil", False), ("Cons", True)), (("False", False), ("True", False)), (("None", False), ("Some", True))
PAIR = (("P", True), ("Q", False))
ONE, ARG = ("int", 1), ("var", "arg -")
STAMP = ("c", 8, ())
INNER = (("val", "x", (0, INT)), ("con", "P", 0, INT, STAMP, 0, PAIR), ("con", "Q", 0, None, STAMP, 1, PAIR), ("exn", "E", INT), ("exn", "D", None))
CONTEXT = extended((BASIS[0], (*BASIS[1], 0)), [("val", "x", (0, INT)), ("val", "f", (0, INT)), ("exn", "E", INT), ("exn", "D", None), ("module", "S", (*INNER, ("module", "T", INNER)))])
E, D = ("var", "exn E"), ("var", "exn D")
SE, TE = ("field", "exn E", ("var", "mod S")), ("field", "exn E", ("field", "mod T", ("var", "mod S")))
TD = ("field", "exn D", ("field", "mod T", ("var", "mod S")))


def function(*rows):
    return ("fn", "arg -", ("match", ARG, rows, "Match"))


class Expressions(unittest.TestCase):
    def check(self, text, tree, names=("x", "f", "exn E", "exn D", "exn Match", "mod S", "+", "=")):
        expression = read_expression(text)
        self.assertEqual(lower(CONTEXT, expression), tree, text)
        self.assertTrue(is_plain(tree, list(names)), text)

    def test_leaves_and_paths(self):
        self.check("7", ("int", 7))
        self.check("~7", ("int", -7))
        self.check("()", ("tuple", ()))
        self.check("x", ("var", "x"))
        self.check("S.x", ("field", "val x", ("var", "mod S")))
        self.check("S.T.x", ("field", "val x", ("field", "mod T", ("var", "mod S"))))
        self.check("x + 1", ("app", ("var", "+"), ("tuple", (("var", "x"), ONE))))

    def test_constructors(self):
        for path, family in (("", None), ("S.", PAIR), ("S.T.", PAIR)):
            if family is not None:
                self.check(f"{path}P", ("fn", "arg -", ("con", PAIR, 0, ARG)))
                self.check(f"{path}Q", ("con", PAIR, 1, None))
                self.check(f"{path}P 1", ("con", PAIR, 0, ONE))
        self.check("Nil", ("con", LIST, 0, None))
        self.check("Cons", ("fn", "arg -", ("con", LIST, 1, ARG)))
        self.check("1 :: Nil", ("con", LIST, 1, ("tuple", (ONE, ("con", LIST, 0, None)))))
        self.check("Some (Some x)", ("con", OPTION, 1, ("con", OPTION, 1, ("var", "x"))))
        self.check("f Some", ("app", ("var", "f"), ("fn", "arg -", ("con", OPTION, 1, ARG))))

    def test_exceptions(self):
        self.check("E", ("fn", "arg -", ("packet", E, ARG)))
        self.check("D", ("packet", D, None))
        self.check("E 1", ("packet", E, ONE))
        self.check("S.E", ("fn", "arg -", ("packet", SE, ARG)))
        self.check("S.T.E (S.x)", ("packet", TE, ("field", "val x", ("var", "mod S"))))
        self.check("S.T.D", ("packet", TD, None))
        self.check("raise D", ("raise", ("packet", D, None)))

    def test_all_forms(self):
        self.check("f 1", ("app", ("var", "f"), ONE))
        self.check("f 1 2", ("app", ("app", ("var", "f"), ONE), ("int", 2)))
        self.check("(1, x, ())", ("tuple", (ONE, ("var", "x"), ("tuple", ()))))
        self.check("x : int", ("var", "x"))
        self.check("(Some : int -> int option) 1", ("app", ("fn", "arg -", ("con", OPTION, 1, ARG)), ONE))
        self.check("fn y => y", function((("var", "y"), ("var", "y"))))
        self.check("fn 1 => x | _ => 2", function((("int", 1), ("var", "x")), (("any",), ("int", 2))))
        self.check("case x of 1 => 2 | y => y", ("match", ("var", "x"), ((("int", 1), ("int", 2)), (("var", "y"), ("var", "y"))), "Match"))
        self.check("if x = 1 then 2 else 3", ("match", ("app", ("var", "="), ("tuple", (("var", "x"), ONE))), ((("con", BOOL, 1, None), ("int", 2)), (("con", BOOL, 0, None), ("int", 3))), "Match"))
        self.check("x handle E y => y | S.T.D => 1", ("handle", ("var", "x"), ((("packet", E, ("var", "y")), ("var", "y")), (("packet", TD, None), ONE))))

    def test_lets(self):
        self.check("let val y = 1 in y end", ("match", ONE, ((("var", "y"), ("var", "y")),), "Bind"))
        self.check("let val (y, z) = f 1 val _ = y in z end", ("match", ("app", ("var", "f"), ONE), ((("tuple", (("var", "y"), ("var", "z"))), ("match", ("var", "y"), ((("any",), ("var", "z")),), "Bind")),), "Bind"))
        self.check("let rec g = fn 1 => 2 and h : int -> int = fn y => g y in h end", ("rec", (("g", "arg -", ("match", ARG, ((("int", 1), ("int", 2)),), "Match")), ("h", "arg -", ("match", ARG, ((("var", "y"), ("app", ("var", "g"), ("var", "y"))),), "Match"))), ("var", "h")))
        self.check("let alias t = int in x end", ("var", "x"))
        self.check("let exception F of int val y = F 1 in F end", ("let", "exn F", ("exception", "F"), ("match", ("packet", ("var", "exn F"), ONE), ((("var", "y"), ("fn", "arg -", ("packet", ("var", "exn F"), ARG))),), "Bind")))
        self.check("let exception F in raise F end", ("let", "exn F", ("exception", "F"), ("raise", ("packet", ("var", "exn F"), None))))

    def test_an_exception_of_a_let_hides_a_constructor_and_another_exception(self):
        self.check("(let exception Some in Some end, Some)", ("tuple", (("let", "exn Some", ("exception", "Some"), ("packet", ("var", "exn Some"), None)), ("fn", "arg -", ("con", OPTION, 1, ARG)))))
        self.check("let val y = E 1 exception E val z = E in fn E => 1 | S.E _ => 2 end", ("match", ("packet", E, ONE), ((("var", "y"), ("let", "exn E", ("exception", "E"), ("match", ("packet", E, None), ((("var", "z"), function((("packet", E, None), ONE), (("packet", SE, ("any",)), ("int", 2)))),), "Bind"))),), "Bind"))
        self.check("let exception X of int in let exception X in X end end", ("let", "exn X", ("exception", "X"), ("let", "exn X", ("exception", "X"), ("packet", ("var", "exn X"), None))))

    def test_patterns(self):
        rows = [
            ("_", ("any",)), ("()", ("tuple", ())), ("y", ("var", "y")), ("( + )", ("var", "+")), ("4", ("int", 4)), ("(y, _, 3)", ("tuple", (("var", "y"), ("any",), ("int", 3)))), ("y as (z, 1)", ("as", "y", ("tuple", (("var", "z"), ONE)))), ("(y : int)", ("var", "y")),
            ("((y : int), _) : int * int", ("tuple", (("var", "y"), ("any",)))), ("Nil", ("con", LIST, 0, None)), ("y :: z", ("con", LIST, 1, ("tuple", (("var", "y"), ("var", "z"))))), ("S.P y", ("con", PAIR, 0, ("var", "y"))), ("S.T.Q", ("con", PAIR, 1, None)), ("E y", ("packet", E, ("var", "y"))), ("D", ("packet", D, None)), ("S.E _", ("packet", SE, ("any",))), ("S.T.D", ("packet", TD, None)),
        ]
        for text, pattern in rows:
            self.assertEqual(lower_pattern(CONTEXT, read_pattern(text)), pattern, text)
            self.assertTrue(is_pattern(pattern, ["exn E", "exn D", "mod S"]))

    def test_the_context_stays_as_it_is(self):
        before = copy.deepcopy(CONTEXT)
        lower(CONTEXT, read_expression("let exception E in E end"))
        self.assertEqual(CONTEXT, before)


class Declarations(unittest.TestCase):
    def lowered(self, text, context=CONTEXT):
        found = declare_all(context, read_program(text))[2]
        self.assertIs(type(found), tuple)
        return found

    def test_core_declarations(self):
        self.assertEqual(self.lowered("val (y, 1) = (x, x)"), (("bind", ("tuple", (("var", "y"), ONE)), ("tuple", (("var", "x"), ("var", "x")))),))
        self.assertEqual(self.lowered("rec g = fn y => g y and h : int -> int = fn 1 => 2 | n => 3"), (("rec", (("g", "arg -", ("match", ARG, ((("var", "y"), ("app", ("var", "g"), ("var", "y"))),), "Match")), ("h", "arg -", ("match", ARG, ((ONE, ("int", 2)), (("var", "n"), ("int", 3))), "Match")))),))
        self.assertEqual(self.lowered("exception F of int exception G"), (("let", "exn F", ("exception", "F")), ("let", "exn G", ("exception", "G"))))
        self.assertEqual(self.lowered("alias t = int variant u = U signature W = sig end"), ())
        self.assertEqual(self.lowered("variant u = U of int val y = U 3"), (("bind", ("var", "y"), ("con", (("U", True),), 0, ("int", 3))),))

    def test_modules_and_functors(self):
        plain = ("match", ONE, ((("var", "y"), ("record", (("val y", ("var", "y")),))),), "Bind")
        self.assertEqual(self.lowered("module M = struct val y = 1 end"), (("let", "mod M", plain),))
        self.assertEqual(self.lowered("functor F (X : sig val z : int end) = struct val y = 1 end"), (("let", "fun F", ("fn", "mod X", plain)),))
        self.assertEqual(self.lowered("module M = S.T"), (("let", "mod M", ("field", "mod T", ("var", "mod S"))),))
        thin = ("let", "mod -", ("var", "mod S"), ("record", (("val x", ("field", "val x", ("var", "mod -"))),)))
        for sign in (":", ":>"):
            self.assertEqual(self.lowered(f"module M = S {sign} sig val x : int end"), (("let", "mod M", thin),))
        found = self.lowered("functor F (X : sig val x : int end) = struct end module M = F (S)")
        self.assertEqual(found[1], ("let", "mod M", ("app", ("var", "fun F"), thin)))
        found = self.lowered("module N = struct functor F (X : sig end) = struct end end module M = N.F (S)")
        self.assertEqual(found[1][2][1], ("field", "fun F", ("var", "mod N")))
        found = self.lowered("module M = let val y = 1 in S end")
        self.assertEqual(found, (("let", "mod M", ("match", ONE, ((("var", "y"), ("var", "mod S")),), "Bind")),))

    def test_open(self):
        opened = ("var", "mod -")
        self.assertEqual(self.lowered("open S.T"), (("let", "mod -", ("field", "mod T", ("var", "mod S"))), ("let", "x", ("field", "val x", opened)), ("let", "exn D", ("field", "exn D", opened)), ("let", "exn E", ("field", "exn E", opened))))
        found = self.lowered("module M = struct module B = struct end module A = struct end functor F (X : sig end) = struct end exception Z exception Y val b = 1 val ( + ) = 2 variant t = T alias u = int end open M")
        self.assertEqual([row[1] for row in found[1:]], ["mod -", "+", "b", "exn Y", "exn Z", "mod A", "mod B", "fun F"])
        self.assertEqual([row[2] for row in found[2:]], [("field", label, opened) for label in ("val +", "val b", "exn Y", "exn Z", "mod A", "mod B", "fun F")])
        self.assertEqual(self.lowered("module M = struct end open M")[1:], (("let", "mod -", ("var", "mod M")),))


class Records(unittest.TestCase):
    def test_wrap(self):
        body = ("var", "z")
        self.assertEqual(wrap((), body), body)
        self.assertEqual(wrap((("bind", ("var", "x"), ONE),), body), ("match", ONE, ((("var", "x"), body),), "Bind"))
        self.assertEqual(wrap((("rec", (("f", "arg -", ONE),)),), body), ("rec", (("f", "arg -", ONE),), body))
        self.assertEqual(wrap((("let", "exn E", ("exception", "E")),), body), ("let", "exn E", ("exception", "E"), body))
        three = (("let", "a", ONE), ("bind", ("any",), ("var", "a")), ("rec", (("f", "x", ("var", "a")),)))
        self.assertEqual(wrap(three, body), ("let", "a", ONE, ("match", ("var", "a"), ((("any",), ("rec", (("f", "x", ("var", "a")),), body)),), "Bind")))
        self.assertEqual(wrap(list(three), body), wrap(three, body))
        tree = wrap((("let", "a", ONE),) * 5000, ("var", "a"))
        self.assertTrue(is_plain(tree, []))

    def test_record(self):
        functor = ("functor", "F", ((), ()), (), ())
        level = (("val", "+", (0, INT)), ("val", "b", (0, INT)), ("shape", "t", 0, INT), ("con", "A", 0, None, STAMP, 0, (("A", False),)), ("exn", "E", None), ("module", "S", ()), functor)
        expected = ("record", (("val +", ("var", "+")), ("val b", ("var", "b")), ("exn E", ("var", "exn E")), ("mod S", ("var", "mod S")), ("fun F", ("var", "fun F"))))
        self.assertEqual(record(level), expected)
        self.assertEqual(record(level[::-1]), expected)
        self.assertEqual(record(()), ("record", ()))

    def test_thinned(self):
        m = ("var", "mod M")
        opened = ("var", "mod -")
        self.assertEqual(thinned(m, ("thin", (), (), ())), ("let", "mod -", m, ("record", ())))
        inner = ("let", "mod -", ("field", "mod S", opened), ("record", (("val y", ("field", "val y", opened)),)))
        self.assertEqual(thinned(m, ("thin", ("a", "b"), ("E",), (("S", ("thin", ("y",), (), ())),))), ("let", "mod -", m, ("record", (("val a", ("field", "val a", opened)), ("val b", ("field", "val b", opened)), ("exn E", ("field", "exn E", opened)), ("mod S", inner)))))

    def test_thinned_records_at_run_time(self):
        def full(n):
            return ("record", (("val a", ("int", n)), ("val b", ("int", n + 1)), ("exn E", ("fixed", 0)), ("mod S", ("record", (("val c", ("int", n + 2)), ("val d", ("int", n + 3)))))))

        last = run(thinned(full(1), ("thin", ("b",), ("E",), (("S", ("thin", ("c",), (), ())),))), 1000)[0]
        self.assertEqual(last, ("value", ("record", (("val b", ("int", 2)), ("exn E", ("exn", 0, "Match")), ("mod S", ("record", (("val c", ("int", 3)),)))))))


if __name__ == "__main__":
    unittest.main()
