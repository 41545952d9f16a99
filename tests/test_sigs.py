"""Signature expressions: points 6.5 to 6.8."""

import copy
import unittest

from deriver import BASIS
from shapes import fun, listed, pair, towers
from shapewright.context import extended
from shapewright.errors import BadModule, DuplicateName, ShapewrightError, TooLarge, UnknownName, WrongArity
from shapewright.levels import tidy
from shapewright.reader import read_program
from shapewright.sigs import elaborate_signature, home
from shapewright.terms import ARITIES, BOOL, INT, UNIT

G0, G1 = ("v", 0), ("v", 1)


def c(stamp, *args):
    return ("c", stamp, args)


def sexp(text):
    return read_program(f"signature G = {text}")[0][2]


def con(name, stamp, index, argument, family, count=0):
    return ("con", name, count, argument, c(stamp, *[("v", k) for k in range(count)]), index, family)


QUEUE = sexp("sig shape 'a q val empty : all 'a . 'a q val push : all 'a . 'a * 'a q -> 'a q exception Empty of int end")


def level_of(s):
    """The level of this signature with the stamp s."""
    push = fun(pair(G0, c(s, G0)), c(s, G0))
    return ("val", "empty", (1, c(s, G0))), ("val", "push", (1, push)), ("shape", "q", 1, c(s, G0)), ("exn", "Empty", INT)


class Signatures(unittest.TestCase):
    def level(self, text, context=BASIS):
        (bound, level), arities = elaborate_signature(context, sexp(text))
        self.assertEqual(arities[: len(context[1])], context[1])
        self.assertEqual(tidy(level), level)
        for stamp in bound:
            self.assertIsNotNone(home(level, stamp), text)
        self.assertEqual(tuple(sorted(set(bound))), bound)
        return bound, level, arities[len(context[1]):]

    def refused(self, code, path, *texts, context=BASIS):
        for text in texts:
            with self.subTest(text), self.assertRaises(BadModule) as caught:
                elaborate_signature(context, sexp(text))
            self.assertEqual((caught.exception.code, caught.exception.path), (code, path))

    def fails(self, kind, name, *texts, context=BASIS):
        for text in texts:
            with self.subTest(text), self.assertRaises(ShapewrightError) as caught:
                elaborate_signature(context, sexp(text))
            self.assertIs(type(caught.exception), kind)
            if kind is not TooLarge:
                self.assertEqual(caught.exception.name, name)

    def test_values_and_shapes(self):
        self.assertEqual(self.level("sig end"), ((), (), ()))
        self.assertEqual(elaborate_signature(BASIS, QUEUE), (((8,), level_of(8)), (*ARITIES, 1)))
        self.assertEqual(self.level("sig val x : int val ( + ) : all 'b 'a . 'a * 'b -> 'a end"), ((), (("val", "+", (2, fun(pair(G0, G1), G0))), ("val", "x", (0, INT))), ()))
        self.assertEqual(self.level("sig shape ('a, 'b) m shape s shape 'a r val x : (s, int) m end"), ((8, 9, 10), (("val", "x", (0, c(8, c(9), INT))), ("shape", "m", 2, c(8, G0, G1)), ("shape", "r", 1, c(10, G0)), ("shape", "s", 0, c(9))), (2, 0, 1)))

    def test_alias_variant_and_exception(self):
        self.assertEqual(self.level("sig shape t alias 'a u = 'a * t val x : int u exception E of t exception D end"), (
            (8,), (("val", "x", (0, pair(INT, c(8)))), ("shape", "t", 0, c(8)), ("shape", "u", 1, pair(G0, c(8))), ("exn", "D", None), ("exn", "E", c(8))), (0,)))
        family, other = (("B", True), ("A", False)), (("C", True),)
        self.assertEqual(self.level("sig shape s variant 'a t = B of 'a u | A and 'a u = C of 'a t end"), (
            (8, 9, 10), (("shape", "s", 0, c(8)), ("shape", "t", 1, c(9, G0)), ("shape", "u", 1, c(10, G0)), con("B", 9, 0, c(10, G0), family, 1), con("A", 9, 1, None, family, 1), con("C", 10, 0, c(9, G0), other, 1)), (0, 1, 1)))

    def test_modules(self):
        self.assertEqual(self.level("sig shape s module S : sig shape t val x : t * s end module T : sig val y : S.t end end"), (
            (8, 9), (("shape", "s", 0, c(8)), ("module", "S", (("val", "x", (0, pair(c(9), c(8)))), ("shape", "t", 0, c(9)))), ("module", "T", (("val", "y", (0, c(9))),))), (0, 0)))

    def test_include(self):
        self.assertEqual(self.level("sig include sig shape t val x : t end val y : t end"), ((8,), (("val", "x", (0, c(8))), ("val", "y", (0, c(8))), ("shape", "t", 0, c(8))), (0,)))

    def test_named_signatures(self):
        context = extended(BASIS, [("signature", "Q", ((8,), level_of(8)))])[0], (*ARITIES, 1)
        self.assertEqual(elaborate_signature(context, ("gname", "Q")), (((9,), level_of(9)), (*ARITIES, 1, 1)))
        bound, level, new = self.level("sig module A : Q module B : Q include Q end", context)
        self.assertEqual((bound, new), ((9, 10, 11), (1, 1, 1)))
        self.assertEqual(level, (*level_of(11), ("module", "A", level_of(9)), ("module", "B", level_of(10))))
        bound, level, new = self.level("sig module A : Q shape t module B : Q where 'a q = 'a list end", context)
        self.assertEqual((bound, new), ((9, 10), (1, 0, 1)))
        self.assertEqual(level, (("shape", "t", 0, c(10)), ("module", "A", level_of(9)), ("module", "B", (("val", "empty", (1, listed(G0))), ("val", "push", (1, fun(pair(G0, listed(G0)), listed(G0)))), ("shape", "q", 1, listed(G0)), ("exn", "Empty", INT)))))
        two = extended(BASIS, [("signature", "T", ((8, 9), (("shape", "a", 0, c(9)), ("shape", "b", 2, c(8, G0, G1)), ("val", "x", (0, c(8, c(9), INT))))))])[0], (*ARITIES, 2, 0, 0)
        (bound, level), arities = elaborate_signature(two, ("gname", "T"))
        self.assertEqual((bound, arities), ((11, 12), (*ARITIES, 2, 0, 0, 2, 0)))
        self.assertEqual(level, (("shape", "a", 0, c(12)), ("shape", "b", 2, c(11, G0, G1)), ("val", "x", (0, c(11, c(12), INT)))))

    def test_unknown_signatures(self):
        self.refused("signature", ("G",), "G", "sig include G end", "sig module S : G end", "G where t = int", "sig val x : int include G end")

    def test_double(self):
        self.refused("double", ("x",), "sig val x : int val x : int end", "sig val x : int val y : int include sig val y1 : int val x : unit end end")
        self.refused("double", ("t",), "sig shape t alias t = int end", "sig shape t shape 'a t end", "sig shape t variant t = A end", "sig variant t = A variant t = B end")
        self.refused("double", ("A",), "sig variant t = A variant u = A end", "sig variant t = A exception A end", "sig exception A exception A of int end", "sig module A : sig end module A : sig end end", "sig module S : sig exception A of int exception A of int end end")
        self.refused("double", ("a",), "sig val a : int val b : int val c : int include sig val b : int val a : int end end")
        self.refused("double", ("t",), "sig shape t exception A include sig exception A shape t end end")
        self.level("sig val t : int shape t exception T module T : sig val t : int shape t end end")

    def test_double_comes_after_the_spec(self):
        self.fails(UnknownName, ("nothing",), "sig val x : int val x : nothing end", "sig shape t alias t = nothing end", "sig module S : sig end module S : sig val x : nothing end end")
        self.refused("double", ("x",), "sig val x : int val x : int val y : nothing end")
        self.refused("signature", ("G",), "sig module S : sig end module S : G end")

    def test_the_context_of_specs(self):
        self.fails(UnknownName, ("t",), "sig val x : t shape t end", "sig module S : sig shape t end val x : t end")
        self.fails(UnknownName, ("S", "t"), "sig val x : S.t module S : sig shape t end end")
        self.fails(UnknownName, ("svar", "a"), "sig val x : 'a end", "sig exception E of 'a end", "sig alias t = 'a end", "sig variant t = A of 'a end")
        self.fails(WrongArity, ("t",), "sig shape 'a t val x : t end", "sig shape t val x : int t end")
        self.fails(DuplicateName, "a", "sig shape ('a, 'b, 'a) t end", "sig val x : all 'a 'a . 'a end", "sig alias ('a, 'a) t = int end", "sig variant ('a, 'a) t = A end")
        self.fails(DuplicateName, "A", "sig variant t = A | A end")
        _, level, _ = self.level("sig shape bool val x : bool end")
        self.assertEqual(level[0], ("val", "x", (0, c(8))))

    def test_too_large(self):
        deep = extended(BASIS, [("shape", "deep", 0, towers(99, INT))])
        self.fails(TooLarge, None, "sig val x : deep list end", "sig shape t val x : t list end where t = deep", context=deep)
        self.level("sig shape t val x : t end where t = deep", deep)


class Where(unittest.TestCase):
    level = Signatures.level
    refused = Signatures.refused
    fails = Signatures.fails

    def test_where(self):
        self.assertEqual(self.level("sig shape t val x : t * t end where t = int"), ((), (("val", "x", (0, pair(INT, INT))), ("shape", "t", 0, INT)), (0,)))
        self.assertEqual(self.level("sig shape ('a, 'b) m val x : all 'a 'b . 'a * 'b -> ('b, 'a) m shape s end where ('b, 'a) m = 'a list * 'b"), (
            (9,), (("val", "x", (2, fun(pair(G0, G1), pair(listed(G0), G1)))), ("shape", "m", 2, pair(listed(G1), G0)), ("shape", "s", 0, c(9))), (2, 0)))
        self.assertEqual(self.level("sig shape 'a t val x : all 'a . 'a t -> int end where 'a t = int")[1][0], ("val", "x", (0, fun(INT, INT))))
        bound, level, _ = self.level("sig module S : sig shape t end shape u val x : S.t * u end where S.t = int where u = unit")
        self.assertEqual((bound, level), ((), (("val", "x", (0, pair(INT, UNIT))), ("shape", "u", 0, UNIT), ("module", "S", (("shape", "t", 0, INT),)))))
        bound, level, _ = self.level("sig shape t alias u = t val x : u end where u = int")
        self.assertEqual((bound, level[0]), ((), ("val", "x", (0, INT))))

    def test_the_shape_is_that_of_the_context(self):
        context = extended(BASIS, [("shape", "t", 0, BOOL)])
        self.assertEqual(self.level("sig shape t val x : t end where t = t list", context)[1][0], ("val", "x", (0, listed(BOOL))))
        self.fails(UnknownName, ("u",), "sig shape t shape u end where t = u")
        self.fails(UnknownName, ("svar", "a"), "sig shape t end where t = 'a")
        self.fails(DuplicateName, "a", "sig shape ('a, 'b) t end where ('a, 'a) t = int")
        self.fails(WrongArity, ("list",), "sig shape t end where t = list")

    def test_refused(self):
        self.refused("where", ("t",), "sig end where t = int", "sig shape 'a t end where t = int", "sig shape t end where 'a t = int", "sig alias t = int end where t = int", "sig variant t = A end where t = int", "sig shape t end where t = int where t = int")
        self.refused("where", ("t",), "sig variant t = A end where t = bool", "sig shape 'a u alias t = int u end where t = int", "sig shape ('a, 'b) u alias ('b, 'a) t = ('a, 'b) u end where ('a, 'b) t = int", "sig shape 'a u alias ('a, 'b) t = 'a u end where ('a, 'b) t = int")
        self.refused("where", ("t",), "sig variant u = A alias t = u end where t = int", "sig shape t module S : sig variant v = B end end where t = int where t = int")
        self.refused("where", ("S", "t"), "sig shape t end where S.t = int", "sig module S : sig variant t = A end end where S.t = int", "sig module S : sig val t : int end end where S.t = int")
        self.refused("where", ("list",), "sig val x : int list end where 'a list = int")
        context = extended(BASIS, [("signature", "G", ((8,), (("shape", "t", 0, c(8)), ("module", "S", (con("A", 8, 0, None, (("A", False),)),)))))])
        self.refused("where", ("t",), "G where t = int", context=(context[0], (*ARITIES, 0)))

    def test_the_order_of_errors(self):
        self.refused("where", ("t",), "sig end where t = nothing", "sig shape t end where ('a, 'a) t = nothing")
        self.fails(UnknownName, ("nothing",), "sig val x : nothing end where t = int", "sig shape t end where t = nothing where u = int")
        self.refused("signature", ("G",), "G where t = nothing")


class Homes(unittest.TestCase):
    def test_home(self):
        level = (("val", "x", (0, c(8))), ("shape", "a", 0, INT), ("shape", "b", 1, c(9, G0)), ("shape", "c", 2, c(10, G1, G0)), ("shape", "d", 0, listed(c(8))), ("shape", "e", 1, c(9, G0)),
                 ("module", "A", (("module", "B", (("shape", "t", 0, c(8)), ("shape", "u", 2, c(10, G0, G1)))), ("shape", "s", 1, c(9, G0)))), ("module", "C", (("shape", "t", 0, c(8)), ("shape", "v", 0, c(11)))))
        rows = [(0, ("a",)), (9, ("b",)), (10, ("A", "B", "u")), (8, ("A", "B", "t")), (11, ("C", "v")), (12, None), (5, None)]
        for stamp, path in rows:
            self.assertEqual(home(level, stamp), path)

    def test_shapes_before_modules(self):
        level = (("module", "A", (("module", "B", (("shape", "t", 0, c(8)),)), ("shape", "s", 0, c(8)))), ("shape", "z", 0, c(8)))
        self.assertEqual(home(level, 8), ("z",))
        self.assertEqual(home(level[:1], 8), ("A", "s"))
        self.assertIsNone(home((("shape", "t", 1, c(8)), ("shape", "u", 0, c(8, INT)), ("shape", "w", 1, c(8, INT)), ("functor", "F", ((8,), (("shape", "t", 0, c(8)),)), (), ())), 8))


class Unchanged(unittest.TestCase):
    def test_the_context_and_its_arities(self):
        context = extended(BASIS, [("signature", "Q", ((8,), level_of(8)))])[0], (*ARITIES, 1)
        before = copy.deepcopy(context)
        _, arities = elaborate_signature(context, sexp("sig module A : Q include Q where 'a q = int shape t variant u = V of t end"))
        self.assertEqual(context, before)
        self.assertEqual(arities, (*ARITIES, 1, 1, 1, 0, 0))


if __name__ == "__main__":
    unittest.main()
