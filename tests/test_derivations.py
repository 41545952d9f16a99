"""Larger derivations: right ones are right, and no shape in them can be another one."""

import unittest

from deriver import BASIS, derive
from shapewright.errors import UnknownName
from shapewright.judge import right_declaration
from shapewright.names import check_names
from shapewright.terms import INT, UNIT

TEXTS = """
val twice = fn f => fn x => f (f x)
val p = let val i = fn x => x in (i 1, i ()) end
rec map = fn f => fn l => case l of Nil => Nil | x :: r => (f x) :: (map f r)
rec f : all 'a . 'a -> int = fn x => f (x, x)
rec even = fn 0 => True | n => odd (n - 1) and odd = fn 0 => False | n => even (n - 1)
rec f : all 'a . 'a -> 'a = fn x : 'a => x : 'a and g = fn _ => (f 1, f ())
rec g = fn x => (f x, f ()) and f : all 'b 'a . 'a -> 'a = fn y => let val z : 'a = y in z end
val r = ref Nil
val h = fn x => let exception E of int in (raise E x) handle E n => n + 1 | Match => 0 end
val k = fn (x, y) => fn z => if x = y then z :: Nil else Nil
val (a, b) = (fn x => x, fn y => (y, y))
val s = (1; 2; ())
val x as (y, z) : int * int = (1, 2)
val o = fn x => case x of Some (y : int) => y | None => 0
rec len : all 'a . 'a list -> int = fn Nil => 0 | _ :: r => 1 + len r
rec f : all 'a . 'a -> 'a list = fn x => let rec g : all 'b . 'b -> 'a list = fn y => x :: Nil in (g 1) @ (g ()) end
val f = fn x => let alias t = int val y : t = x in y end
rec loop = fn x => loop x
val w = fn r => (r := 1 :: !r; !r)
rec f = fn x => let val y = fn z => (x, z) in (y 1, y ()) end
val e = fn x => (x andalso True) orelse False
rec f : int -> int = fn x => g x and g = fn x => f (x + 1) and h : all 'a . 'a -> 'a = fn x => (g 1; x)
""".strip().split("\n")


def is_shape(value):
    return isinstance(value, tuple) and len(value) > 1 and value[0] in ("v", "c", "t", "f")


def with_another_shape(value):
    """The derivations in which one shape is another one."""
    if is_shape(value):
        yield UNIT if value == INT else INT
        yield ("c", 5, (value,))
        yield ("v", 1999999)
    elif isinstance(value, tuple):
        for index, part in enumerate(value):
            for changed in with_another_shape(part):
                yield (*value[:index], changed, *value[index + 1:])


class Derivations(unittest.TestCase):
    def test_right_derivations(self):
        for text in TEXTS:
            declaration, result, derivation = derive(BASIS, text)
            self.assertIsNone(check_names(BASIS, declaration))
            self.assertEqual(right_declaration(BASIS, declaration, derivation), result, text)

    def test_one_other_shape(self):
        for text in TEXTS:
            declaration, _, derivation = derive(BASIS, text)
            for changed in with_another_shape(derivation):
                self.assertIsNone(right_declaration(BASIS, declaration, changed), (text, changed))

    def test_a_derivation_of_another_declaration(self):
        rows = [derive(BASIS, text) for text in TEXTS]
        for declaration, _, derivation in rows:
            for _, _, other in rows:
                if other != derivation:
                    self.assertIsNone(right_declaration(BASIS, declaration, other))

    def test_an_unknown_name_has_no_right_derivation(self):
        empty = ((), BASIS[1])
        unknown = 0
        for text in TEXTS:
            declaration, _, derivation = derive(BASIS, text)
            try:
                check_names(empty, declaration)
            except UnknownName:
                self.assertIsNone(right_declaration(empty, declaration, derivation))
                unknown += 1
        self.assertGreater(unknown, 10)
