"""Structures, functors and lists of declarations: points 6.14 to 6.17."""

import copy
import unittest

from deriver import BASIS
from programs import BOUND, QUEUE, accepted, written
from shapes import FREE, free, fun, listed, pair, ref
from shapewright.context import extended, free_variables, lookup, settle
from shapewright.errors import BadModule, DuplicateName, NotShaped, ShapewrightError, TooLarge, UnknownName
from shapewright.infer import infer_expression
from shapewright.judge import right_declaration
from shapewright.levels import realize, tidy
from shapewright.lower import lower, wrap
from shapewright.matching import match_level, realizes
from shapewright.plain import is_plain
from shapewright.reader import read_program
from shapewright.sigs import elaborate_signature, home
from shapewright.steps import run
from shapewright.structures import declare_all, module
from shapewright.terms import ARITIES, INT, UNIT
from typed import Typed

G0 = ("v", 0)
A, B = free(3), free(8)
WEAK = extended(BASIS, [("val", "r", (0, ref(listed(A)))), ("val", "q", (0, ref(B)))])


def c(stamp, *args):
    return ("c", stamp, args)


def mexp(text):
    return read_program(f"module M = {text}")[0][2]


class Case(unittest.TestCase):
    def level(self, text, context=BASIS):
        """The level of a module expression and the new arities; the entries of the context stay as they are."""
        before = copy.deepcopy(context)
        level, after, _ = module(context, mexp(text))
        self.assertEqual(context, before)
        self.assertEqual(after[0], context[0])
        self.assertEqual(after[1][: len(context[1])], context[1])
        return level, after[1][len(context[1]):]

    def entries(self, text, context=BASIS):
        before = copy.deepcopy(context)
        entries, after, lowered, derivations = declare_all(context, read_program(text))
        self.assertEqual(context, before)
        self.assertEqual(after[0][: len(context[0])], context[0])
        self.assertEqual(after[0][len(context[0]):], entries)
        self.assertEqual([type(part) for part in (entries, after, lowered, derivations)], [tuple] * 4)
        return entries

    def refused(self, code, path, *texts, context=BASIS):
        for text in texts:
            with self.subTest(text), self.assertRaises(BadModule) as caught:
                declare_all(context, read_program(text))
            self.assertEqual((caught.exception.code, caught.exception.path), (code, path))

    def fails(self, kind, *texts, context=BASIS):
        for text in texts:
            with self.subTest(text), self.assertRaises(ShapewrightError) as caught:
                declare_all(context, read_program(text))
            self.assertIs(type(caught.exception), kind)


class Modules(Case):
    def test_struct(self):
        self.assertEqual(self.level("struct end"), ((), ()))
        self.assertEqual(self.level("struct val x = 1 val x = () val a = x end"), ((("val", "a", (0, UNIT)), ("val", "x", (0, UNIT))), ()))
        family = (("A", False), ("B", True))
        self.assertEqual(self.level("struct variant t = A | B of t exception E alias u = t list val y = A end"), (
            (("val", "y", (0, c(8))), ("shape", "t", 0, c(8)), ("shape", "u", 0, listed(c(8))), ("con", "A", 0, None, c(8), 0, family), ("con", "B", 0, c(8), c(8), 1, family), ("exn", "E", None)), (0,)))
        self.assertEqual(self.level("struct module S = struct val x = 1 end val y = S.x functor F (X : sig end) = struct end end")[0], (
            ("val", "y", (0, INT)), ("module", "S", (("val", "x", (0, INT)),)), ("functor", "F", ((), ()), (), ())))
        self.fails(UnknownName, "module M = struct val x = y end", "module M = struct val x = 1 end val y = x", "module M = struct exception E end exception D of E.t")

    def test_stamps_that_are_hidden(self):
        level, new = self.level("struct variant t = A val x = A variant t = B val y = B end")
        self.assertEqual((level[0], level[1], new), (("val", "x", (0, c(8))), ("val", "y", (0, c(9))), (0, 0)))

    def test_mpath(self):
        context = extended(BASIS, [("module", "S", (("module", "T", (("val", "x", (0, INT)),)),))])
        self.assertEqual(self.level("S.T", context), ((("val", "x", (0, INT)),), ()))
        self.assertEqual(module(context, mexp("S"))[2], ("var", "mod S"))
        self.refused("module", ("X",), "module M = X", "module M = X : sig val x : none end", "module M = struct module N = X end")
        self.refused("module", ("S", "X"), "module M = S.X", context=context)
        self.refused("module", ("X", "T"), "module M = X.T", context=context)

    def test_sees(self):
        self.assertEqual(self.level("struct variant t = A val x = A val y = 1 end : sig shape t val x : t end"), ((("val", "x", (0, c(8))), ("shape", "t", 0, c(8))), (0, 0)))
        family = (("A", True),)
        self.assertEqual(self.level("struct variant 'a t = A of 'a val x = A end : sig variant 'a t = A of 'a val x : int -> int t end"), (
            (("val", "x", (0, fun(INT, c(8, INT)))), ("shape", "t", 1, c(8, G0)), ("con", "A", 1, G0, c(8, G0), 0, family)), (1, 1)))
        self.assertEqual(self.level("struct alias t = int val i = fn x => x end : sig shape t val i : t -> t end")[0], (("val", "i", (0, fun(INT, INT))), ("shape", "t", 0, INT)))

    def test_seals(self):
        self.assertEqual(self.level("struct variant t = A val x = A val y = 1 end :> sig shape t val x : t end"), ((("val", "x", (0, c(10))), ("shape", "t", 0, c(10))), (0, 0, 0)))
        self.assertEqual(self.level("struct alias 'a t = 'a * int alias u = int end :> sig shape u shape 'a t end where u = int"), ((("shape", "t", 1, c(10, G0)), ("shape", "u", 0, INT)), (0, 1, 1)))
        family = (("A", True),)
        self.assertEqual(self.level("struct variant 'a t = A of 'a end :> sig variant 'a t = A of 'a end"), ((("shape", "t", 1, c(10, G0)), ("con", "A", 1, G0, c(10, G0), 0, family)), (1, 1, 1)))
        level, new = self.level("struct variant t = A and u = B of t end :> sig shape t variant u = B of t end")
        self.assertEqual((level, new), ((("shape", "t", 0, c(12)), ("shape", "u", 0, c(13)), ("con", "B", 0, c(12), c(13), 0, (("B", True),))), (0,) * 6))

    def test_sealed_shapes_are_new(self):
        text = "signature S = sig shape t val x : t val eq : t * t -> int end module M = struct alias t = int val x = 1 val eq = fn (a, b) => a + b end module A = M :> S module B = M :> S module C = M : S "
        entries = self.entries(text + "val a = A.eq (A.x, A.x) val b = C.eq (C.x, M.x) val d = C.x + 1")
        self.assertEqual([lookup(entries, "val", (name, "x"))[2][1] for name in "ABC"], [c(10), c(12), INT])
        self.fails(NotShaped, text + "val a = A.eq (A.x, B.x)", text + "val a = A.x + 1", text + "val a = A.eq (A.x, M.x)")

    def test_ascriptions_that_do_not_match(self):
        for sign in (":", ":>"):
            self.refused("missing", ("x",), f"module M = struct end {sign} sig val x : int end")
            self.refused("value", ("x",), f"module M = struct val x = 1 end {sign} sig val x : unit end")
            self.refused("missing", ("q",), f"variant q = Q of int list module M = struct val empty = Q Nil end {sign} sig shape q val empty : q end")
            self.refused("signature", ("S",), f"module M = struct end {sign} S", f"module M = struct end {sign} sig include S end")
            self.refused("signature", ("S",), f"module M = struct val x = 1 end {sign} S")
            self.refused("module", ("N",), f"module M = N {sign} S")
            self.fails(UnknownName, f"module M = struct alias t = int end {sign} sig val x : t end")

    def test_mlet(self):
        level, new = self.level("let variant t = A val x = 1 module N = struct val z = A end in struct val y = (x, N.z) end end")
        self.assertEqual((level, new), ((("val", "y", (0, pair(INT, c(8)))),), (0,)))
        self.assertEqual(self.entries("module M = let val x = 1 in struct val y = x end end val x = M.y")[0], ("module", "M", (("val", "y", (0, INT)),)))
        self.fails(UnknownName, "module M = let val x = 1 in struct end end val y = x")
        self.refused("module", ("X",), "module M = let open X in struct val x = y end end")


class Functors(Case):
    FUNCTOR = "functor F (X : sig shape t val x : t end) = struct variant u = U of X.t val y = U X.x alias w = X.t end "

    def test_the_entry(self):
        entries, after, _, _ = declare_all(BASIS, read_program(self.FUNCTOR))
        parameter = ((8,), (("val", "x", (0, c(8))), ("shape", "t", 0, c(8))))
        result = (("val", "y", (0, c(9))), ("shape", "u", 0, c(9)), ("shape", "w", 0, c(8)), ("con", "U", 0, c(8), c(9), 0, (("U", True),)))
        self.assertEqual(entries, (("functor", "F", parameter, (9,), result),))
        self.assertEqual(after[1], (*ARITIES, 0, 0))

    def test_made_are_the_stamps_of_the_body_that_occur_in_its_level(self):
        entries = self.entries("variant o = O functor F (X : sig shape t end) = struct module L = let variant a = A variant b = B in struct val b = B val o = O end end variant c = C val d = L.b end")
        self.assertEqual((entries[2][2][0], entries[2][3]), ((9,), (11, 12)))
        entries = self.entries("functor F (X : sig end) = struct variant a = A end : sig end functor G (X : sig end) = struct variant a = A end : sig shape a end functor H (X : sig end) = struct variant a = A end :> sig shape a end")
        self.assertEqual([entry[3] for entry in entries], [(), (9,), (13,)])

    def test_applications(self):
        entries = self.entries(self.FUNCTOR + "module M = struct alias t = int val x = 3 val z = 4 end module A = F (M) module B = F (M) val a = case A.y of A.U n => n + 1")
        family = (("U", True),)
        for entry, stamp in ((entries[2], 10), (entries[3], 11)):
            self.assertEqual(entry[2], (("val", "y", (0, c(stamp))), ("shape", "u", 0, c(stamp)), ("shape", "w", 0, INT), ("con", "U", 0, INT, c(stamp), 0, family)))
        self.fails(NotShaped, self.FUNCTOR + "module M = struct alias t = int val x = 3 end module A = F (M) module B = F (M) val l = A.y :: B.y :: Nil", self.FUNCTOR + "module M = struct alias t = int val x = 3 end module A = F (M) module B = F (M) val l = fn B.U n => A.U n | A.U m => A.y")

    def test_new_stamps_come_in_the_order_of_made(self):
        entries = self.entries("functor F (X : sig end) = struct variant 'a p = P variant ('a, 'b) o = O variant q = Q end module A = F (struct variant z = Z end)")
        self.assertEqual(entries[0][3], (8, 9, 10))
        self.assertEqual([(entry[1], entry[3]) for entry in entries[1][2] if entry[0] == "shape"], [("o", c(13, G0, ("v", 1))), ("p", c(12, G0)), ("q", c(14))])

    def test_the_parameter_is_in_scope_in_the_body_alone(self):
        self.fails(UnknownName, self.FUNCTOR + "val z = X.x", "functor F (X : sig val x : int end) = struct val y = X.z end", "functor F (X : sig val x : t shape t end) = struct end")
        entries = self.entries("functor F (X : sig variant t = A | B of int end) = struct val y = case X.B 3 of X.A => 1 | X.B n => n end")
        self.assertEqual(entries[0][4], (("val", "y", (0, INT)),))
        self.fails(NotShaped, "functor F (X : sig shape t val x : t end) = struct val y = X.x + 1 end")

    def test_refused_applications(self):
        self.refused("functor", ("F",), "module M = F (struct end)", "module M = F (X)", "module F = struct end module M = F (F)")
        self.refused("functor", ("S", "F"), "module S = struct end module M = S.F (S)")
        self.refused("missing", ("t",), self.FUNCTOR + "module A = F (struct end)")
        self.refused("value", ("x",), self.FUNCTOR + "module A = F (struct alias t = int val x = () end)")
        self.refused("module", ("N",), self.FUNCTOR + "module A = F (N)")

    def test_functors_inside(self):
        entries = self.entries("module S = struct " + self.FUNCTOR + "end module A = S.F (struct alias t = unit val x = () end) open S module B = F (struct alias t = unit val x = () end)")
        self.assertEqual(entries[1][2][0], ("val", "y", (0, c(10))))
        self.assertEqual(entries[3][2][0], ("val", "y", (0, c(11))))
        nested = "functor F (X : sig shape t end) = struct functor G (Y : sig val y : X.t end) = struct variant v = V of X.t val w = V Y.y end end module A = F (struct alias t = int end) module B = A.G (struct val y = 3 end) module C = A.G (struct val y = 4 end)"
        entries = self.entries(nested)
        self.assertEqual(entries[1][2][0][2], ((), (("val", "y", (0, INT)),)))
        self.assertNotEqual(entries[2][2][0], entries[3][2][0])

    def test_written(self):
        text = self.FUNCTOR + "module M = struct alias t = int val x = 3 end module A = F (M) module B = F (struct alias t = unit val x = () end)"
        self.assertEqual(written(text), "{mod A = {val y = U 3}, mod B = {val y = U ()}, mod M = {val x = 3}, fun F = fn}")


class Declarations(Case):
    def test_open(self):
        entries = self.entries("module S = struct val b = 1 val a = () variant t = A exception E module T = struct end functor F (X : sig end) = struct end end open S val c = (a, b) val d = raise E")
        self.assertEqual(entries[1:8], entries[0][2])
        self.assertEqual(entries[8], ("val", "c", (0, pair(UNIT, INT))))
        self.refused("module", ("X",), "open X", "module M = struct open X end")
        self.refused("module", ("S", "T"), "module S = struct end open S.T")

    def test_what_hides_what(self):
        text = "val x = 1 module S = struct val x = () exception E end exception E of int open S val y = x val z = E"
        self.assertEqual([entry[2] for entry in self.entries(text)[-2:]], [(0, UNIT), (0, c(2))])
        text = "module S = struct val x = () end open S val x = 1 val y = x val z = S.x"
        self.assertEqual([entry[2] for entry in self.entries(text)[-2:]], [(0, INT), (0, UNIT)])
        self.assertEqual(written(text), "{val x = 1, val y = 1, val z = (), mod S = {val x = ()}}")
        text = "module S = struct val x = 1 end module S = struct val y = S.x end val z = S.y"
        self.assertEqual(self.entries(text)[-1], ("val", "z", (0, INT)))
        self.fails(UnknownName, "module S = struct val x = 1 end module S = struct end val z = S.x")

    def test_signatures(self):
        entries = self.entries("signature S = sig shape t val x : t end signature T = sig module A : S module B : S end")
        self.assertEqual(entries[0], ("signature", "S", ((8,), (("val", "x", (0, c(8))), ("shape", "t", 0, c(8))))))
        self.assertEqual(entries[1][2][0], (9, 10))
        self.refused("double", ("x",), "signature S = sig val x : int val x : int end")

    def test_all_entries_are_returned_in_order(self):
        entries = self.entries("val x = 1 val x = 2 alias t = int exception E variant u = A module S = struct end signature G = sig end functor F (X : G) = struct end")
        self.assertEqual([entry[:2] for entry in entries], [("val", "x"), ("val", "x"), ("shape", "t"), ("exn", "E"), ("shape", "u"), ("con", "A"), ("module", "S"), ("signature", "G"), ("functor", "F")])
        self.assertEqual(declare_all(BASIS, ()), ((), BASIS, (), ()))

    def test_derivations(self):
        text = "val x = 1 module S = struct alias t = int val y = x end functor F (X : sig end) = struct exception E rec f = fn z => z end module T = let variant v = V in struct val w = V end end module U = F (struct val k = 1 end) module W = struct val m = 2 end :> sig val m : int end signature G = sig end open S val n = y"
        derivations = accepted(text)[3]
        self.assertEqual([derivation[0] for derivation in derivations], ["val", "alias", "val", "exception", "rec", "variant", "val", "val", "val", "val"])
        context = extended(BASIS, [("val", "x", (0, INT))])
        self.assertIsNotNone(right_declaration(context, read_program("val y = x")[0], derivations[2]))

    def test_errors_of_other_parts(self):
        self.fails(DuplicateName, "variant t = A | A", "rec f = fn x => x and f = fn y => y", "module M = struct alias ('a, 'a) t = int end")
        self.fails(NotShaped, "val x = 1 2", "module M = struct val x = 1 2 end", "functor F (X : sig end) = struct val x = 1 2 end")
        deep = "val a = fn x => (x, x, x, x, x, x) val b = fn x => a (a (a x)) val c = fn x => b (a x) val d = fn x => c (a x)"
        self.fails(TooLarge, deep, f"module M = struct {deep} end")

    def test_the_first_error_counts(self):
        self.refused("module", ("X",), "open X val y = z", "module M = X module N = Y")
        self.fails(UnknownName, "val y = z open X")
        self.refused("functor", ("F",), "module M = F (struct val x = y end)")
        self.fails(UnknownName, "module M = struct val x = y end : S")


class WeakVariables(Case):
    def settled(self, text, context=WEAK):
        """The entries and the context afterwards, of which free variables may be settled."""
        before = copy.deepcopy(context)
        entries, after, _, derivations = declare_all(context, read_program(text))
        self.assertEqual(context, before)
        self.assertEqual(after[0][len(context[0]):], entries)
        return entries, after[0][: len(context[0])], derivations

    def test_later_declarations_settle_entries_and_the_context(self):
        entries, outer, derivations = self.settled("val s = ref Nil val u = s := !r val v = r := 1 :: Nil")
        self.assertEqual([entry[2][1] for entry in entries], [ref(listed(INT)), UNIT, UNIT])
        self.assertEqual(outer, settle(WEAK[0], {A[1]: INT}))
        self.assertEqual(len(free_variables((("val", "s", (0, derivations[0][1][1])),))), 1)

    def test_inside_modules(self):
        for text in ("module M = struct val u = r := 1 :: Nil end", "module M = struct module N = struct val u = r := 1 :: Nil end end", "module M = let val u = r := 1 :: Nil in struct end end", "module M = struct val u = r := 1 :: Nil end : sig end",
                     "functor F (X : sig end) = struct val u = r := 1 :: Nil end", "functor F (X : sig end) = struct end module M = F (struct val u = r := 1 :: Nil end)", "module M = struct val s = r end : sig val s : int list ref end", "module M = struct val s = r end :> sig val s : int list ref end",
                     "functor F (X : sig val s : int list ref end) = struct end module M = F (struct val s = r end)", "functor F (X : sig end) = struct module M = struct val s = r end : sig val s : int list ref end end"):
            with self.subTest(text):
                _, outer, _ = self.settled(text)
                self.assertEqual(outer, settle(WEAK[0], {A[1]: INT}))
                after = module(WEAK, mexp(text.split("=", 1)[1]))[1] if text.startswith("module") else None
                if after is not None:
                    self.assertEqual(after[0], outer)

    def test_levels_that_share_a_weak_variable(self):
        entries, _, _ = self.settled("module M = struct val s = ref Nil val t = s end val u = M.s := 1 :: Nil val v = M.t", BASIS)
        self.assertEqual(entries[0], ("module", "M", (("val", "s", (0, ref(listed(INT)))), ("val", "t", (0, ref(listed(INT)))))))
        self.assertEqual(entries[2], ("val", "v", (0, ref(listed(INT)))))
        self.fails(NotShaped, "module M = struct val s = ref Nil val t = s end val u = M.s := 1 :: Nil val v = M.t := () :: Nil")
        entries, _, _ = self.settled("module M = struct val s = ref Nil val u = s := () :: Nil end", BASIS)
        self.assertEqual(entries[0][2][0], ("val", "s", (0, ref(listed(UNIT)))))
        entries, _, _ = self.settled("module M = struct val s = ref Nil end open M module N = M : sig val s : int list ref end val t = s", BASIS)
        self.assertEqual([entries[1], entries[3]], [("val", "s", (0, ref(listed(INT)))), ("val", "t", (0, ref(listed(INT))))])
        self.refused("value", ("s",), "module M = struct val s = ref Nil end module N = M : sig val s : all 'a . 'a list ref end")
        self.refused("value", ("t",), "module M = struct val s = ref Nil val t = s end : sig val s : int list ref val t : unit list ref end")
        entries = declare_all(BASIS, read_program("val s = ref Nil"))[0]
        self.assertGreaterEqual(free_variables(entries)[0], FREE)

    def test_functor_results(self):
        entries, outer, _ = self.settled("functor F (X : sig end) = struct val s = r end module A = F (struct end) val u = A.s := 1 :: Nil module B = F (struct end)")
        self.assertEqual(outer, settle(WEAK[0], {A[1]: INT}))
        for level in (entries[0][4], entries[1][2], entries[3][2]):
            self.assertEqual(level, (("val", "s", (0, ref(listed(INT)))),))
        # The argument settles what the result of its own application shows.
        entries, _, _ = self.settled("functor F (X : sig end) = struct val s = r end module A = F (struct val u = r := 1 :: Nil end)")
        self.assertEqual(entries[1], ("module", "A", (("val", "s", (0, ref(listed(INT)))),)))
        entries, _, _ = self.settled("functor F (X : sig val t : int list ref end) = struct val s = r end module A = F (struct val t = r end)")
        self.assertEqual(entries[1], ("module", "A", (("val", "s", (0, ref(listed(INT)))),)))

    def test_weak(self):
        self.refused("weak", ("F",), "functor F (X : sig end) = struct val s = ref Nil end", "functor F (X : sig end) = struct module M = struct val s = ref Nil end end", "functor F (X : sig end) = let val s = ref Nil in struct val t = s end end", "module M = struct functor F (X : sig end) = struct val s = ref Nil end end",
                     "functor G (Y : sig end) = struct functor F (X : sig end) = struct val s = ref Nil end end")
        self.refused("weak", ("F",), "functor F (X : sig end) = struct val s = (r, ref Nil) end", context=WEAK)
        self.entries("functor F (X : sig end) = struct val s = (r, q) end", WEAK)
        self.entries("functor F (X : sig end) = let val s = ref Nil in struct val t = 1 end end")
        self.entries("functor F (X : sig end) = struct val s = ref Nil end : sig val s : int list ref end")
        self.entries("functor F (X : sig end) = struct val s = ref Nil val u = s := 1 :: Nil end")

    def test_escape(self):
        self.refused("escape", ("F",), "functor F (X : sig shape t val x : t end) = struct val u = r := X.x :: Nil end", "functor F (X : sig end) = struct variant t = A val u = r := A :: Nil end", "functor F (X : sig end) = struct variant t = A val u = q := (fn y => (1, A :: y)) end",
                     "functor F (X : sig end) = let variant t = A val u = r := A :: Nil in struct end end", "module M = struct functor F (X : sig shape t val x : t end) = struct val u = r := X.x :: Nil end end", "functor F (X : sig end) = struct module N = struct variant t = A val u = r := A :: Nil end end", context=WEAK)
        self.refused("escape", ("F",), "functor F (X : sig shape t val x : t end) = struct val u = r := X.x :: Nil val s = ref Nil end", context=WEAK)
        self.refused("escape", ("G",), "functor F (X : sig shape t val x : t end) = struct val s = ref Nil functor G (Y : sig shape u val y : u end) = struct val u = s := Y.y :: Nil end end")
        # The inner functor may use a stamp of the outer one, and stamps of the context may be used anywhere.
        self.entries("functor F (X : sig shape t val x : t end) = struct val s = ref Nil functor G (Y : sig end) = struct val u = s := X.x :: Nil end end")
        self.assertEqual(self.settled("variant t = A functor F (X : sig end) = struct val u = r := A :: Nil end")[1], settle(WEAK[0], {A[1]: c(8)}))
        self.assertEqual(self.settled("module M = struct variant t = A val u = r := A :: Nil end")[1], settle(WEAK[0], {A[1]: c(8)}))


class MostSpecific(Case):
    def test_the_level_of_a_structure(self):
        texts = ("sig variant 'a t = A of 'a val x : int t val i : all 'a . 'a -> 'a end", "sig shape 'a t val x : int t val i : int -> int end", "sig shape 'a t val i : all 'b . 'b list -> 'b list end", "sig end")
        level, after, _ = module(BASIS, mexp("struct variant 'a t = A of 'a val x = A 1 val i = fn y => y end"))
        for text in texts:
            want, arities = elaborate_signature(after, read_program(f"signature S = {text}")[0][2])
            realization, settled, _ = match_level((after[0], arities), level, want)
            self.assertEqual(settled, {})
            seen = realize(want[1], realization)
            for other in texts:
                less, arities = elaborate_signature((after[0], arities), read_program(f"signature S = {other}")[0][2])
                try:
                    match_level((after[0], arities), seen, less)
                except BadModule:
                    continue
                self.assertTrue(realizes(level, less, match_level((after[0], arities), level, less)[0]))

    def test_the_example_of_the_interface(self):
        self.refused("missing", ("q",), "variant q = Q of int list module M = struct val empty = Q Nil end :> sig shape q val empty : q end")
        level, new = self.level("struct variant q = Q of int list val empty = Q Nil end :> sig shape q val empty : q end")
        self.assertEqual((level, new), ((("val", "empty", (0, c(10))), ("shape", "q", 0, c(10))), (0, 0, 0)))
        have = (("val", "empty", (0, c(8))), ("shape", "q", 0, c(8)), ("con", "Q", 0, listed(INT), c(8), 0, (("Q", True),)))
        self.assertEqual(match_level(((), (*ARITIES, 0, 0)), have, ((9,), (("val", "empty", (0, c(9))), ("shape", "q", 0, c(9)))))[2], ("thin", ("empty",), (), ()))


class Running(Case):
    def test_programs(self):
        rows = [
            (QUEUE + "open Q val (a, q) = pop (push (2, push (1, empty))) val (b, q) = pop q val c = pop q handle Empty => (9, q)", "{val a = 1, val b = 2, val c = (9, Q (Nil, Nil)), val empty = Q (Nil, Nil), val pop = fn, val push = fn, val q = Q (Nil, Nil), exn Empty = Empty, mod Q = {val empty = Q (Nil, Nil), val pop = fn, val push = fn, exn Empty = Empty}}"),
            ("functor F (X : sig val n : int end) = struct exception E of int val f = fn x => raise (E (x + X.n)) end module A = F (struct val n = 1 end) module B = F (struct val n = 2 end) val a = A.f 1 handle B.E n => 0 | A.E n => n val b = B.f 1 handle A.E n => 0 | B.E n => n", "{val a = 2, val b = 3, mod A = {val f = fn, exn E = E}, mod B = {val f = fn, exn E = E}, fun F = fn}"),
            ("module S = struct val x = 1 val y = 2 module T = struct val z = 3 val w = 4 end end module M = S : sig val y : int module T : sig val w : int end end", "{mod M = {val y = 2, mod T = {val w = 4}}, mod S = {val x = 1, val y = 2, mod T = {val w = 4, val z = 3}}}"),
            ("functor F (X : sig val a : int end) = X module M = F (struct val a = 1 val b = 2 end)", "{mod M = {val a = 1}, fun F = fn}"), ("val x = 1 module M = let val x = 5 in struct val y = x end end val z = x", "{val x = 1, val z = 1, mod M = {val y = 5}}"),
            ("exception E module M = struct val f = fn x => raise E exception E of int end val y = M.f 1 handle M.E n => n | E => 7", "{val y = 7, exn E = E, mod M = {val f = fn, exn E = E}}"), ("module M = struct val ( + ) = fn (a, b) => a * b end val x = 3 + 4 open M val y = 3 + 4", "{val + = fn, val x = 7, val y = 12, mod M = {val + = fn}}"),
            ("val (x, 2) = (1, 3)", "Bind"), ("val x = case 3 of 4 => 5", "Match"), ("exception E of int module M = struct val x = raise (E 3) end", "E 3"), ("", "{}"),
            ("val r = ref Nil module M = struct val u = r := 1 :: Nil end val x = !r", "{val r = ref (Cons (1, Nil)), val x = Cons (1, Nil), mod M = {val u = ()}}"),
        ]
        for text, expected in rows:
            self.assertEqual(written(text), expected, text)

    def test_accepted_expressions_are_never_stuck(self):
        ends = {}
        for seed in range(400):
            maker = Typed(seed)
            expression = maker.expression(BASIS, maker.shape(3), 5)[0]
            infer_expression(BASIS, expression)
            tree = wrap(BOUND, lower(BASIS, expression))
            self.assertTrue(is_plain(tree, []))
            last = run(tree, 3000)[0]
            self.assertIn(last[0], ("value", "raised", "fuel"), seed)
            ends[last[0]] = ends.get(last[0], 0) + 1
        self.assertGreater(min(ends["value"], ends["raised"]), 50)

    def test_homes_of_made_signatures(self):
        for text in ("sig shape t module S : sig shape u variant v = V end end", "sig include sig shape 'a t end module T : sig shape t end end where 'a t = 'a list"):
            (bound, level), _ = elaborate_signature(BASIS, read_program(f"signature S = {text}")[0][2])
            self.assertTrue(all(home(level, stamp) for stamp in bound))
            self.assertEqual(tidy(level), level)


if __name__ == "__main__":
    unittest.main()
