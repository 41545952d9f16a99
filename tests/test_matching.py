"""Matching levels with signatures: points 6.9 to 6.13."""

import copy
import unittest

from deriver import BASIS
from shapes import free, fun, listed, pair, ref, towers
from shapewright.context import extended
from shapewright.errors import BadModule, TooLarge
from shapewright.levels import realize
from shapewright.matching import match_level, realizes
from shapewright.reader import read_program
from shapewright.sigs import elaborate_signature
from shapewright.structures import module
from shapewright.terms import ARITIES, INT, UNIT

G0, G1 = ("v", 0), ("v", 1)
A, B = free(3), free(8)


def c(stamp, *args):
    return ("c", stamp, args)


def structure(text, context=BASIS):
    """The level of a structure, and the context afterwards."""
    level, after, _ = module(context, read_program(f"module M = struct {text} end")[0][2])
    return level, after


def signature(text, context):
    abstract, arities = elaborate_signature(context, read_program(f"signature G = sig {text} end")[0][2])
    return abstract, (context[0], arities)


def both(have, want, context=BASIS):
    """A level, an abstract signature, and a context with the stamps of both."""
    level, after = structure(have, context)
    abstract, after = signature(want, (context[0], after[1]))
    return level, abstract, after


class Matching(unittest.TestCase):
    def match(self, have, want, context=BASIS):
        level, abstract, after = both(have, want, context)
        before = copy.deepcopy((level, abstract, after))
        realization, settled, thin = match_level(after, level, abstract)
        self.assertEqual((level, abstract, after), before)
        self.assertEqual(settled, {})
        self.assertIs(realizes(level, abstract, realization), True, (have, want))
        return realization, thin

    def refused(self, code, path, *rows, context=BASIS):
        for have, want in rows:
            with self.subTest((have, want)):
                level, abstract, after = both(have, want, context)
                with self.assertRaises(BadModule) as caught:
                    match_level(after, level, abstract)
                self.assertEqual((caught.exception.code, caught.exception.path), (code, path))
                for shape in (INT, UNIT, c(8), c(9)):
                    self.assertFalse(realizes(level, abstract, {stamp: (0, shape) for stamp in abstract[0]}))

    def test_values(self):
        for have, want in (
            ("val x = 1", "val x : int"), ("val x = 1 val y = ()", "val y : unit"), ("val i = fn x => x", "val i : int -> int"), ("val i = fn x => x", "val i : all 'a . 'a -> 'a"), ("val i = fn x => x", "val i : all 'b . 'b list -> 'b list"),
            ("val k = fn x => fn y => x", "val k : all 'a . 'a -> 'a -> 'a"), ("val n = Nil", "val n : all 'a 'b . ('a * 'b) list"), ("", ""), ("val x = 1", ""),
        ):
            self.assertEqual(self.match(have, want)[0], {})
        self.refused("value", ("x",), ("val x = 1", "val x : unit"), ("val x = fn y => y + 1", "val x : all 'a . 'a -> 'a"), ("val x = fn y => fn z => (y = z; y)", "val x : all 'a 'b . 'a -> 'b -> 'a"), ("val x = fn y => y", "val x : all 'a 'b . 'a -> 'b"))
        self.refused("missing", ("x",), ("", "val x : int"), ("exception X", "val x : int"), ("val y = 1 module X = struct val x = 1 end", "val x : int"))

    def test_abstract_stamps(self):
        self.assertEqual(self.match("alias t = int val x = 3", "shape t val x : t")[0], {8: (0, INT)})
        self.assertEqual(self.match("alias 'a t = 'a list * int val x = (Nil, 3)", "shape 'a t val x : unit t")[0], {8: (1, pair(listed(G0), INT))})
        self.assertEqual(self.match("variant t = A val x = A", "shape t val x : t")[0], {9: (0, c(8))})
        self.assertEqual(self.match("alias t = int alias u = t", "shape t alias u = t")[0], {8: (0, INT)})
        self.assertEqual(self.match("module S = struct alias t = int end alias u = unit val x = (3, ())", "module S : sig shape t end shape u val x : S.t * u")[0], {8: (0, INT), 9: (0, UNIT)})
        self.refused("missing", ("t",), ("val x = 1", "shape t"), ("val x = 1", "shape t val x : unit"), ("variant u = T", "shape t"), ("val t = 1", "shape t"))
        self.refused("missing", ("S", "t"), ("val x = 1", "module S : sig shape t end"), ("alias t = int", "module S : sig shape t end"), ("module S = struct end", "module S : sig shape t end val y : int"))
        self.refused("arity", ("t",), ("alias 'a t = int", "shape t"), ("alias t = int", "shape 'a t"), ("variant 'a t = A", "variant t = A"), ("alias ('a, 'b) t = int", "val x : int shape 'a t"))
        self.refused("arity", ("S", "t"), ("module S = struct alias 'a t = int end", "module S : sig shape t end"))

    def test_concrete_stamps(self):
        self.assertEqual(self.match("variant 'a t = A of 'a | B", "variant 'a t = A of 'a | B")[0], {9: (1, c(8, G0))})
        self.assertEqual(self.match("variant t = A of u and u = B of t", "variant u = B of t and t = A of u")[0], {10: (0, c(9)), 11: (0, c(8))})
        self.assertEqual(self.match("variant t = A alias u = t", "variant u = A")[0], {9: (0, c(8))})
        self.assertEqual(self.match("variant 'a t = A of 'a", "shape 'a t"), ({9: (1, c(8, G0))}, ("thin", (), (), ())))
        self.refused("variant", ("t",), ("alias t = int * int", "variant t = A"), ("variant 'a u = A alias 'a t = 'a u list", "variant 'a t = A"), ("variant ('a, 'b) u = A alias ('b, 'a) t = ('a, 'b) u", "variant ('a, 'b) t = A"), ("variant ('a, 'b) u = A alias ('a, 'b) t = ('a, 'a) u", "variant ('a, 'b) t = A"))
        self.refused("constructor", ("A",), ("variant t = A of int", "variant t = A of unit"), ("variant t = A of int", "variant t = A"), ("variant t = B | A", "variant t = A | B"), ("variant t = A | B", "variant t = A"), ("variant t = A", "variant t = A | C"))
        self.refused("constructor", ("A",), ("variant t = A exception A", "variant t = A"), ("variant t = A variant s = A", "variant t = A"), ("variant s = Z alias t = s exception A", "variant t = A"), ("variant 'a t = A of 'a", "variant 'a t = A of 'a list"))
        self.refused("missing", ("A",), ("alias t = bool", "variant t = A"))
        self.refused("shape", ("u",), ("variant t = A alias u = int", "variant t = A alias u = t"))

    def test_shapes(self):
        self.match("alias t = int", "alias t = int")
        self.match("alias ('a, 'b) t = 'a * 'b", "alias ('c, 'd) t = 'c * 'd")
        self.match("alias t = int alias u = int list", "shape t alias u = t list")
        self.refused("shape", ("t",), ("alias t = int", "alias t = unit"), ("alias ('a, 'b) t = 'a * 'b", "alias ('a, 'b) t = 'b * 'a"), ("alias 'a t = int", "alias t = int"), ("variant t = A", "alias t = int"))
        # The home of the stamp is t, the first of its plain names.
        self.refused("shape", ("u",), ("alias t = int alias u = unit", "shape u alias t = u"))
        self.refused("missing", ("t",), ("val t = 1", "alias t = int"))

    def test_exceptions(self):
        self.match("exception E of int exception D", "exception D exception E of int")
        self.match("alias t = int exception E of t list", "shape t exception E of t list")
        self.refused("exception", ("E",), ("exception E", "exception E of int"), ("exception E of int", "exception E"), ("exception E of int", "exception E of unit"), ("variant t = E", "exception E"), ("variant t = E of int", "exception E of int"))
        self.refused("missing", ("E",), ("exception D", "exception E"), ("val e = 1", "exception E"))

    def test_modules(self):
        have = "module S = struct val x = 1 module T = struct val y = fn z => z exception E of int variant t = A end end val x = ()"
        self.match(have, "module S : sig val x : int module T : sig val y : int -> int end end val x : unit")
        self.match(have, "module S : sig end")
        self.match(have, "module S : sig module T : sig variant t = A exception E of int end end")
        self.refused("missing", ("S",), ("val x = 1", "module S : sig end"), ("functor S (X : sig end) = struct end", "module S : sig end"))
        self.refused("missing", ("S", "T", "x"), (have, "module S : sig module T : sig val x : int end end"))
        self.refused("missing", ("S", "U"), (have, "module S : sig module U : sig end end"))
        self.refused("value", ("S", "T", "y"), (have, "module S : sig module T : sig val y : int end end"))
        self.refused("exception", ("S", "T", "E"), (have, "module S : sig module T : sig exception E end end"))
        self.refused("constructor", ("S", "T", "A"), (have, "module S : sig module T : sig variant t = A of int end end"))
        self.refused("shape", ("S", "T", "t"), (have, "module S : sig module T : sig alias t = int end end"))

    def test_which_error_comes_first(self):
        # All stamps come before all entries, and the entries come in the order of the wanted level.
        self.refused("missing", ("t",), ("", "val x : int shape t"), ("alias u = int", "shape t shape u variant v = A"))
        self.refused("arity", ("u",), ("alias u = int", "val x : int shape 'a u shape t"))
        self.refused("missing", ("u",), ("alias 'a t = int", "shape u shape t"))
        self.refused("variant", ("t",), ("alias t = int * int", "variant t = A shape u"))
        self.refused("missing", ("u",), ("alias t = int", "variant t = A shape u"))
        self.refused("value", ("x",), ("val x = 1 alias t = int", "exception E val x : unit alias t = unit module S : sig end"))
        self.refused("missing", ("a",), ("val x = 1", "val x : unit val a : int"))
        self.refused("shape", ("t",), ("val x = 1 alias t = int", "val x : int exception E alias t = unit"))
        self.refused("constructor", ("Z",), ("variant t = Z of int", "exception A variant t = Z"))
        self.refused("exception", ("A",), ("exception A of int", "exception B exception A module S : sig end"))
        self.refused("missing", ("B",), ("exception A of int", "exception A of int exception B module S : sig end"))
        self.refused("value", ("A", "z"), ("module A = struct val z = 1 end module B = struct end", "module B : sig val x : int end module A : sig val z : unit end"))

    def test_thin(self):
        rows = [
            ("val b = 1 val a = 2 val c = 3 exception Z exception Y of int exception X", "val c : int exception Z val a : int exception Y of int", ("thin", ("a", "c"), ("Y", "Z"), ())),
            ("variant t = A alias u = int val x = A", "variant t = A alias u = int val x : t", ("thin", ("x",), (), ())), ("val x = 1", "", ("thin", (), (), ())),
            ("module T = struct val x = 1 val y = 2 end module S = struct module R = struct end val z = 1 exception E end", "module T : sig val y : int end module S : sig exception E module R : sig end end", ("thin", (), (), (("S", ("thin", (), ("E",), (("R", ("thin", (), (), ())),))), ("T", ("thin", ("y",), (), ()))))),
        ]
        for have, want, thin in rows:
            self.assertEqual(self.match(have, want)[1], thin)

    def test_too_large(self):
        deep = extended(BASIS, [("shape", "deep", 0, towers(99, INT))])
        level, abstract, after = both("alias t = deep", "shape t val x : t list", deep)
        with self.assertRaises(TooLarge):
            match_level(after, level, abstract)
        self.assertFalse(realizes(level, abstract, {8: (0, towers(99, INT))}))


class WeakVariables(unittest.TestCase):
    def level(self, *shapes):
        return tuple(("val", f"x{k}", scheme) for k, scheme in enumerate(shapes))

    def match(self, have, want, context=((), (*ARITIES, 0))):
        realization, settled, thin = match_level(context, have, ((), want))
        self.assertEqual(realization, {})
        return settled

    def refused(self, path, have, want):
        with self.assertRaises(BadModule) as caught:
            self.match(have, want)
        self.assertEqual((caught.exception.code, caught.exception.path), ("value", path))

    def test_settled_once_and_then_used(self):
        have = self.level((0, ref(A)), (0, listed(A)), (0, fun(B, A)))
        self.assertEqual(self.match(have, self.level((0, ref(INT)), (0, listed(INT)), (0, fun(UNIT, INT)))), {A[1]: INT, B[1]: UNIT})
        self.assertEqual(self.match(have, self.level((0, ref(INT)))), {A[1]: INT})
        self.refused(("x1",), have, self.level((0, ref(INT)), (0, listed(UNIT))))
        self.refused(("x2",), have, self.level((0, ref(INT)), (0, listed(INT)), (0, fun(UNIT, UNIT))))
        self.assertEqual(self.match(have, ()), {})

    def test_inside_modules(self):
        have = (("val", "x", (0, ref(A))), ("module", "S", (("val", "y", (0, A)),)), ("module", "T", (("val", "z", (0, A)),)))
        want = (("module", "S", (("val", "y", (0, INT)),)), ("module", "T", (("val", "z", (0, INT)),)))
        self.assertEqual(self.match(have, want), {A[1]: INT})
        self.refused(("T", "z"), have, (want[0], ("module", "T", (("val", "z", (0, UNIT)),))))
        self.refused(("S", "y"), have, (("val", "x", (0, ref(UNIT))), *want))

    def test_a_weak_variable_would_have_to_be_general(self):
        self.refused(("x0",), self.level((0, fun(A, A))), self.level((1, fun(G0, G0))))
        self.refused(("x0",), self.level((0, listed(A))), self.level((1, listed(listed(G0)))))
        self.assertEqual(self.match(self.level((1, fun(G0, A))), self.level((1, fun(G0, INT)))), {A[1]: INT})
        self.refused(("x0",), self.level((1, fun(G0, A))), self.level((1, fun(G0, G0))))
        self.assertEqual(self.match(self.level((1, fun(G0, pair(A, G0)))), self.level((1, fun(listed(G0), pair(UNIT, listed(G0)))))), {A[1]: UNIT})
        self.refused(("x0",), self.level((0, pair(A, A))), self.level((0, pair(INT, UNIT))))

    def test_no_weak_variables(self):
        self.assertEqual(self.match(self.level((1, fun(G0, G0)), (2, pair(G0, G1))), self.level((0, fun(INT, INT)), (1, pair(G0, G0)))), {})
        self.refused(("x0",), self.level((1, pair(G0, G0))), self.level((2, pair(G0, G1))))

    def test_the_realization_comes_first(self):
        have = (("val", "r", (0, ref(A))), ("shape", "t", 0, listed(INT)))
        want = ((8,), (("val", "r", (0, ref(c(8)))), ("shape", "t", 0, c(8))))
        self.assertEqual(match_level(((), (*ARITIES, 0)), have, want), ({8: (0, listed(INT))}, {A[1]: listed(INT)}, ("thin", ("r",), (), ())))

    def test_the_stamps_that_stand_for_general_variables_are_new(self):
        have, want = self.level((0, pair(c(20), A))), self.level((1, pair(G0, INT)))
        self.refused(("x0",), have, want)
        self.refused(("x0",), self.level((0, c(9))), self.level((1, G0)))
        # 8 is the last stamp of the context; the two that are wanted stand behind it.
        for shape in (c(7), c(8), c(9), c(10)):
            self.refused(("x0",), self.level((1, pair(G0, shape))), self.level((2, pair(G0, G1))))
            self.refused(("x0",), self.level((1, pair(shape, G0))), self.level((2, pair(G0, G1))))

    def test_the_variables_that_stand_for_general_ones_are_new(self):
        for number in (0, 1, 5):
            weak = free(number)
            have = self.level((2, pair(pair(G0, G1), weak)), (0, ref(weak)))
            want = self.level((0, pair(pair(INT, UNIT), listed(INT))), (0, ref(listed(INT))))
            self.assertEqual(self.match(have, want), {weak[1]: listed(INT)})


class Realizes(unittest.TestCase):
    def test_only_the_right_one(self):
        level, abstract, after = both("alias t = int alias 'a u = 'a list val x = 3 :: Nil", "shape t shape 'a u val x : t u")
        right = {8: (0, INT), 9: (1, listed(G0))}
        self.assertEqual(match_level(after, level, abstract)[0], right)
        self.assertIs(realizes(level, abstract, right), True)
        for wrong in ({}, {8: (0, INT)}, {**right, 10: (0, INT)}, {**right, 3: (1, ref(G0))}, {8: (1, INT), 9: (1, listed(G0))}, {8: (0, INT), 9: (0, listed(G0))}, {8: (0, UNIT), 9: (1, listed(G0))}, {8: (0, INT), 9: (1, ref(G0))}, {8: (0, INT), 9: (1, listed(INT))}, {8: (0, INT), 10: (1, listed(G0))}):
            self.assertIs(realizes(level, abstract, wrong), False, wrong)

    def test_concrete_stamps(self):
        level, abstract, _ = both("variant 'a t = A of 'a", "variant 'a t = A of 'a")
        self.assertTrue(realizes(level, abstract, {9: (1, c(8, G0))}))
        for wrong in ((1, listed(c(8, G0))), (1, c(8, INT)), (1, G0), (0, c(8)), (1, c(5, G0)), (2, c(8, G0))):
            self.assertFalse(realizes(level, abstract, {9: wrong}))
        # An alias of a constructor's stamp that is not its plain name does not count as the variant.
        wanted = ((9,), (("shape", "t", 1, c(9, G0)), ("con", "A", 1, None, c(9, G0), 0, (("A", False),))))
        have = (("shape", "t", 1, c(5, listed(G0))), ("con", "A", 1, None, c(5, listed(G0)), 0, (("A", False),)))
        self.assertFalse(realizes(have, wanted, {9: (1, c(5, listed(G0)))}))

    def test_values_that_are_not_general_enough(self):
        for stamp in (0, 1, 8, 9, 20):
            have = (("val", "x", (0, c(stamp))),)
            self.assertTrue(realizes(have, ((), have), {}))
            self.assertFalse(realizes(have, ((), (("val", "x", (1, G0)),)), {}))
            for other in (pair(G0, c(stamp)), pair(c(stamp), G0)):
                self.assertFalse(realizes((("val", "x", (1, other)),), ((), (("val", "x", (2, pair(G0, G1))),)), {}))

    def test_the_arity_is_that_of_the_stamp(self):
        # The stamp is used inside of other shapes and of modules.
        wanted = ((8,), (("val", "x", (0, fun(INT, listed(c(8, INT))))), ("module", "S", (("shape", "t", 1, c(8, G0)),))))
        have = (("val", "x", (0, fun(INT, listed(UNIT)))), ("module", "S", (("shape", "t", 1, UNIT),)))
        self.assertTrue(realizes(have, wanted, {8: (1, UNIT)}))
        self.assertFalse(realizes(have, wanted, {8: (0, UNIT)}))
        self.assertFalse(realizes(have, wanted, {8: (2, UNIT)}))
        inside = ((8,), wanted[1][1:])
        self.assertTrue(realizes(have, inside, {8: (1, UNIT)}))
        self.assertFalse(realizes(have, inside, {8: (0, UNIT)}))

    def test_matching_is_reflexive(self):
        for text in ("", "val x = 1 val i = fn y => y", "variant 'a t = A of 'a u and 'a u = B exception E of int alias v = int t", "module S = struct variant t = A val x = A end module T = struct alias t = S.t exception A end val y = S.A"):
            level, after = structure(text)
            self.assertTrue(realizes(level, ((), level), {}))
            self.assertEqual(match_level(after, level, ((), level))[:2], ({}, {}))
            self.assertFalse(realizes(level, ((), level), {0: (0, INT)}))

    def test_matching_is_transitive(self):
        chain = [
            ("variant 'a t = A of 'a | B alias u = int val x = fn y => (y, 3) val z = A 4 exception E module S = struct val w = B end", "variant 'a t = A of 'a | B shape u val x : all 'a . 'a -> 'a * u val z : u t module S : sig val w : all 'a . 'a t end"),
            (None, "shape 'a t shape u val x : u -> u * u module S : sig val w : u t end"), (None, "shape 'a t shape u module S : sig end"), (None, ""),
        ]
        level, after = structure(chain[0][0])
        middle = level
        for _, want in chain:
            abstract, after = signature(want, after)
            first = match_level(after, level, abstract)[0]
            second = match_level(after, middle, abstract)[0]
            self.assertEqual(first, second)
            self.assertTrue(realizes(level, abstract, first))
            middle = realize(abstract[1], second)


if __name__ == "__main__":
    unittest.main()
