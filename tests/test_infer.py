"""Finding the most general shape: part 4."""

import copy
import unittest

from deriver import BASIS
from shapes import FREE, free, fun, listed, pair, ref, towers, wide
from shapewright.context import extended, free_variables, settle
from shapewright.errors import DuplicateName, NotShaped, ShapewrightError, TooLarge, UnknownName, WrongArity
from shapewright.infer import infer_declaration, infer_expression
from shapewright.judge import right_declaration, right_expression
from shapewright.reader import read_expression, read_program
from shapewright.schemes import close, match_instance
from shapewright.terms import ARITIES, EXN, INT, UNIT, depth, size, variables
from test_derivations import TEXTS
from typed import Typed

G0, G1 = ("v", 0), ("v", 1)
A, B = free(3), free(8)
# Two weak variables, one of them in a module, and a function that is general beside a weak variable.
WEAK = extended(BASIS, (
    ("val", "r", (0, ref(listed(A)))),
    ("val", "g", (1, fun(G0, pair(A, G0)))),
    ("module", "S", (("val", "q", (0, ref(B))), ("exn", "X", B))),
))


class Case(unittest.TestCase):
    def expression(self, context, text, **first):
        """What is inferred for a text; it must be a solution."""
        expression = read_expression(text) if isinstance(text, str) else text
        shape, settled, derivation = infer_expression(context, expression, **first)
        self.check_settled(context, settled, [shape])
        after = settle(context[0], settled), context[1]
        self.assertIs(right_expression(after, expression, derivation), True, text)
        self.assertEqual(derivation[1], shape)
        self.check_numbers(context, derivation, **first)
        return shape, settled

    def declaration(self, context, text, **first):
        declaration = read_program(text)[0] if isinstance(text, str) else text
        entries, arities, settled, derivation = infer_declaration(context, declaration, **first)
        self.check_settled(context, settled, [("v", number) for number in free_variables(entries)])
        after = settle(context[0], settled), context[1]
        self.assertEqual(right_declaration(after, declaration, derivation), (entries, arities), text)
        self.check_numbers(context, derivation, **first)
        return entries, settled

    def check_settled(self, context, settled, shapes):
        self.assertIs(type(settled), dict)
        self.assertLessEqual(set(settled), set(free_variables(context[0])))
        inside = {number for shape in [*settled.values(), *shapes] for number in variables(shape)}
        self.assertFalse(set(settled) & inside)

    def check_numbers(self, context, derivation, first=FREE):
        old = free_variables(context[0])
        low = max([first, *[number + 1 for number in old]])
        for number in numbers_in(derivation):
            self.assertTrue(number in old or low <= number < low + 1000000 - 1, number)

    def scheme(self, text, context=BASIS):
        """The scheme of the one value that a declaration adds."""
        entries, settled = self.declaration(context, text)
        self.assertEqual(settled, {})
        self.assertEqual([entry[0] for entry in entries], ["val"])
        return entries[0][2]

    def refused(self, kind, *texts, context=BASIS):
        for text in texts:
            with self.subTest(text), self.assertRaises(ShapewrightError) as caught:
                if isinstance(text, str) and text.split()[0] in ("val", "rec", "variant", "alias", "exception"):
                    infer_declaration(context, read_program(text)[0])
                else:
                    infer_expression(context, read_expression(text) if isinstance(text, str) else text)
            self.assertIs(type(caught.exception), kind, text)


def numbers_in(value):
    if isinstance(value, tuple) and value:
        if value[0] in ("v", "c", "t", "f"):
            return variables(value)
        if value[0] == "fixed":
            return value[1] + numbers_in(value[2])
        return tuple(number for part in value for number in numbers_in(part))
    return ()


class Expressions(Case):
    def test_shapes_of_all_forms(self):
        rows = [
            ("3", INT), ("()", UNIT), ("n_", None), ("Nil", listed(G0)), ("Cons", fun(pair(G0, listed(G0)), listed(G0))),
            ("Match", EXN), ("fn x => x", fun(G0, G0)), ("fn (x, y) => x", fun(pair(G0, G1), G0)), ("(fn x => x) 4", INT),
            ("(1, ())", pair(INT, UNIT)), ("let val i = fn x => x in (i 1, i ()) end", pair(INT, UNIT)),
            ("case 3 :: Nil of Nil => () | x :: _ => ()", UNIT), ("raise Match", G0), ("fn x => raise x", fun(EXN, G0)),
            ("1 handle Match => 2 | _ => 3", INT), ("Nil : int list", listed(INT)), ("fn x : int => x", fun(INT, INT)),
            ("fn x as (y, 3) => (y, x)", fun(pair(G0, INT), pair(G0, pair(G0, INT)))), ("fn () => 1", fun(UNIT, INT)),
            ("fn f => fn x => f (f x)", fun(fun(G0, G0), fun(G0, G0))), ("fn _ => 1", fun(G0, INT)), ("ref Nil", ref(listed(G0))),
            ("fn Some x => x", fun(("c", 6, (G0,)), G0)), ("fn x => if x then 1 else 2", fun(("c", 4, ()), INT)),
            ("let alias t = int exception E of t in raise E 3 end", G0), ("fn x => let val y = x in (y, y) end", fun(G0, pair(G0, G0))),
            ("fn x => let val (y, z) = (x, fn w => w) in (z 1, z (), y) end", fun(G0, ("t", (INT, UNIT, G0)))),
        ]
        for text, expected in rows:
            with self.subTest(text):
                if expected is None:
                    self.refused(UnknownName, text)
                    continue
                shape, settled = self.expression(BASIS, text)
                self.assertEqual(settled, {})
                self.assertEqual(close(shape, ())[1], expected)

    def test_no_shape(self):
        self.refused(
            NotShaped, "1 2", "fn x => x x", "(1, 2) + ()", "raise 3", "1 handle 3 => 4", "1 handle Match => ()", "1 : unit", "fn (x : int) => x :: (() :: Nil)",
            "case 3 of () => 1", "case 3 of 1 => 1 | 2 => ()", "fn 1 => 1 | () => 2", "(fn (x, y) => x) (1, 2, 3)", "fn f => (f 1, f ())", "let val x = (fn y => y) (fn z => z) in (x 1, x ()) end",
            "let rec f = fn x => (f 1, f ()) in f end", "fn x => fn y => if x = (x, y) then 1 else 2", "Nil : int list list -> int", "True 3", "fn f => f f", "Match 3", "let val (x, x1) = 3 in x end",
        )

    def test_a_constructor_pattern_with_an_argument_too_many_or_too_few(self):
        self.refused(NotShaped, "fn Nil x => 1", "fn Cons => 1", "fn Match x => 1", "1 handle Match _ => 2", "case Nil of Cons => 1", "let exception E of int in 1 handle E => 2 end")

    def test_a_variable_that_would_contain_itself(self):
        self.refused(NotShaped, "fn x => x x", "let rec f = fn x => f in f end", "fn x => case x of Some y => (x = y)", "fn x => fn y => (x = (y, y); y = x :: Nil)", "val r = fn x => fn y => (x := !y; y := x)")

    def test_right_derivations_are_instances(self):
        for seed in range(400):
            maker = Typed(seed)
            shape = maker.shape(3)
            expression, derivation = maker.expression(BASIS, shape, 5)
            self.assertIs(right_expression(BASIS, expression, derivation), True, seed)
            found, settled = self.expression(BASIS, expression)
            self.assertEqual(settled, {})
            self.assertIsNotNone(match_instance(close(found, ()), shape), seed)

    def test_the_phrase_and_the_context_stay_as_they_are(self):
        context = copy.deepcopy(WEAK)
        expression = read_expression("r := 1 :: !r")
        infer_expression(context, expression)
        self.assertEqual((context, expression), (WEAK, read_expression("r := 1 :: !r")))


class Declarations(Case):
    def test_all_kinds(self):
        for text in TEXTS:
            with self.subTest(text):
                entries, settled = self.declaration(BASIS, text)
                self.assertEqual(settled, {})
                self.assertTrue(entries)

    def test_alias_variant_and_exception(self):
        t = ("c", 8, (G0,))
        rows = [
            ("alias 'a t = 'a * int", (("shape", "t", 1, pair(G0, INT)),), ARITIES, "alias"),
            ("exception E of int", (("exn", "E", INT),), ARITIES, "exception"),
            ("variant 'a t = C of 'a | D", (("shape", "t", 1, t), ("con", "C", 1, G0, t, 0, (("C", True), ("D", False))), ("con", "D", 1, None, t, 1, (("C", True), ("D", False)))), (*ARITIES, 1), "variant"),
        ]
        for text, entries, arities, tag in rows:
            for context in (BASIS, WEAK):
                found = infer_declaration(context, read_program(text)[0])
                self.assertEqual(found, (entries, arities, {}, (tag,)))

    def test_what_is_general(self):
        self.assertEqual(self.scheme("val i = fn x => x"), (1, fun(G0, G0)))
        self.assertEqual(self.scheme("val n = Nil"), (1, listed(G0)))
        self.assertEqual(self.scheme("val n = (Nil, Some Nil) : int list * int list option")[0], 0)
        self.assertEqual(self.scheme("val p = (Nil, fn x => x)"), (2, pair(listed(G0), fun(G1, G1))))
        self.assertEqual(self.scheme("rec f = fn x => f x"), (2, fun(G0, G1)))
        self.assertEqual(self.scheme("rec f = fn x => x"), (1, fun(G0, G0)))
        entries, _ = self.declaration(BASIS, "val (a, b as Some c) = (fn x => x, Some Nil)")
        self.assertEqual([entry[1:] for entry in entries], [("a", (1, fun(G0, G0))), ("b", (1, ("c", 6, (listed(G0),)))), ("c", (1, listed(G0)))])
        entries, _ = self.declaration(BASIS, "rec even = fn 0 => True | n => odd (n - 1) and odd = fn n => even n and k = fn x => x")
        self.assertEqual([entry[2][0] for entry in entries], [0, 0, 1])

    def test_what_is_weak(self):
        for text in ("val r = ref Nil", "val r = (fn x => x) Nil", "val r = let val x = Nil in x end", "val r = case 1 of _ => Nil", "val r = raise Match", "val r = Nil handle _ => Nil", "val r = (Nil, ref 1)", "val r = !(ref Nil)"):
            with self.subTest(text):
                count, shape = self.scheme(text)
                self.assertEqual(count, 0)
                self.assertEqual(len(variables(shape)), 1)
                self.assertGreaterEqual(variables(shape)[0], FREE)

    def test_polymorphic_uses(self):
        self.assertEqual(self.scheme("val p = let val i = fn x => x rec k = fn x => fn y => x in (i 1, i (), k 1 2, k () i) end")[1], ("t", (INT, UNIT, INT, UNIT)))
        self.refused(NotShaped, "val p = (fn i => (i 1, i ())) (fn x => x)", "rec f = fn x => (f 1, f ())", "rec f = fn x => g x and g = fn x => (f 1; f ())")

    def test_a_variable_of_the_context_is_not_closed(self):
        self.assertEqual(self.scheme("val f = fn x => let val y = fn z => (x, z) in (y 1, y ()) end"), (1, fun(G0, pair(pair(G0, INT), pair(G0, UNIT)))))
        self.refused(NotShaped, "val f = fn x => let val y = fn z => x z in (y 1, y ()) end", "val f = fn x => let rec y = fn z => x = z in (y 1, y ()) end")
        self.refused(NotShaped, "val f = fn x => let val y = ref x in let val z = fn u => !y = u in (z 1, z ()) end end")

    def test_a_variable_that_is_settled_before_the_closing(self):
        self.assertEqual(self.scheme("val f = fn x => let val y = (x + 1; fn z => (x, z)) val w = fn u => x in (w 1, w ()) end"), (0, fun(INT, pair(INT, INT))))

    def test_random_declarations(self):
        for seed in range(150):
            maker = Typed(seed)
            for word in ("val", "closed", "plain", "fixed"):
                declaration, derivation, entries = getattr(maker, "make_" + word)(BASIS, 4)
                self.assertEqual(right_declaration(BASIS, declaration, derivation), (entries, ARITIES), seed)
                found, settled = self.declaration(BASIS, declaration)
                self.assertEqual(settled, {})
                for entry, other in zip(found, entries, strict=True):
                    self.assertEqual(entry[1], other[1])
                    self.assertIsNotNone(match_instance(close(entry[2][1], ()), other[2][1]), seed)


class Weak(Case):
    def test_nothing_is_settled_without_need(self):
        for text in ("!r", "(r, S.q)", "g 1", "fn x => g x", "let val y = !r in y end", "raise S.X (raise Match)", "r := !r", "fn x => (S.q := x)", "case !r of x :: _ => x | Nil => raise Match"):
            with self.subTest(text):
                self.assertEqual(self.expression(WEAK, text)[1], {})

    def test_settled_by_one_expression(self):
        self.assertEqual(self.expression(WEAK, "r := 1 :: Nil"), (UNIT, {A[1]: INT}))
        self.assertEqual(self.expression(WEAK, "raise S.X ()")[1], {B[1]: UNIT})
        self.assertEqual(self.expression(WEAK, "case g 1 of (1, _) => 2")[1], {A[1]: INT})
        shape, settled = self.expression(WEAK, "S.q := !r")
        self.assertIn(settled, ({B[1]: listed(A)},))
        shape, settled = self.expression(WEAK, "fn x => r := (x, x) :: Nil")
        self.assertEqual(list(settled), [A[1]])
        self.assertEqual(settled[A[1]], pair(shape[1], shape[1]))
        self.assertNotIn(shape[1], (A, B))
        self.assertEqual(self.expression(WEAK, "(r := !S.q :: Nil; !S.q + 1)"), (INT, {A[1]: INT, B[1]: INT}))
        settled = self.expression(WEAK, "r := !S.q :: Nil")[1]
        self.assertIn(settled, ({A[1]: B}, {B[1]: A}))

    def test_settled_shapes_agree(self):
        self.refused(NotShaped, "(r := 1 :: Nil; r := () :: Nil)", "r := !r :: Nil", "(S.q := r; r := !S.q :: Nil)", "(r := 1 :: Nil; g 1 : unit * int)", context=WEAK)

    def test_a_general_variable_beside_a_weak_one(self):
        shape, settled = self.expression(WEAK, "(g 1, g ())")
        self.assertEqual((shape, settled), (pair(pair(A, INT), pair(A, UNIT)), {}))
        shape, settled = self.expression(WEAK, "case (g 1, g ()) of ((3, _), _) => g Nil")
        self.assertEqual(settled, {A[1]: INT})
        self.assertEqual(close(shape, ()), (1, pair(INT, listed(G0))))

    def test_several_declarations(self):
        context = BASIS
        found = []
        for text in ("val r = ref Nil", "val q = ref Nil", "val f = fn x => (r := x :: !r; !q)", "val u = q := (1 :: !r)", "val (v, w) = (!r, !q)"):
            entries, settled = self.declaration(context, text)
            context = extended((settle(context[0], settled), context[1]), entries)
            found.append(sorted(settled))
        self.assertEqual([len(numbers) for numbers in found], [0, 0, 0, 2, 0])
        self.assertEqual(free_variables(context[0]), ())
        self.assertEqual([entry[2] for entry in context[0][-6:]], [(0, ref(listed(INT))), (0, ref(listed(INT))), (0, fun(INT, listed(INT))), (0, UNIT), (0, listed(INT)), (0, listed(INT))])

    def test_a_weak_variable_is_not_closed(self):
        entries, settled = self.declaration(WEAK, "val f = fn x => (x, !r)")
        self.assertEqual((entries, settled), ((("val", "f", (1, fun(G0, pair(G0, listed(A))))),), {}))
        entries, settled = self.declaration(WEAK, "rec f = fn x => if x = !S.q then f x else r")
        self.assertEqual((entries, settled), ((("val", "f", (0, fun(B, ref(listed(A))))),), {}))

    def test_right_derivations_are_instances(self):
        count = 0
        for seed in range(300):
            maker = Typed(seed)
            mapping = {A[1]: maker.shape(2), B[1]: maker.shape(2)}
            after = settle(WEAK[0], mapping), WEAK[1]
            shape = listed(mapping[A[1]])
            expression, derivation = maker.expression(after, shape, 4)
            if seed % 3:
                whole = pair(ref(shape), shape)
                expression = ("app", ("var", (":=",)), ("tuple", (("var", ("r",)), expression)))
                both = ("tuple", whole, (("var", ref(shape), ()), derivation))
                derivation = ("app", UNIT, ("var", fun(whole, UNIT), (shape,)), both)
                shape = UNIT
            self.assertIs(right_expression(after, expression, derivation), True)
            found, settled = self.expression(WEAK, expression)
            # One substitution must make the shape and both variables what the derivation makes of them.
            three = ("t", (found, settled.get(A[1], A), settled.get(B[1], B)))
            self.assertIsNotNone(match_instance(close(three, ()), ("t", (shape, mapping[A[1]], mapping[B[1]]))), seed)
            count += len(settled)
        self.assertGreater(count, 30)

    def test_new_numbers(self):
        for first in (FREE, FREE + 5, FREE + 5000000):
            shape, _ = self.expression(WEAK, "fn x => x", first=first)
            self.assertGreaterEqual(shape[1][1], max(first, B[1] + 1))
            entries, _ = self.declaration(BASIS, "val r = ref Nil", first=first)
            self.assertGreaterEqual(free_variables(entries)[0], first)
        high = extended(BASIS, [("val", "z", (0, ("v", FREE + 7000000)))])
        self.assertGreater(self.expression(high, "fn x => x")[0][1][1], FREE + 7000000)
        self.assertGreater(self.expression(high, "fn x => x", first=FREE + 9)[0][1][1], FREE + 7000000)


class Annotations(Case):
    def test_polymorphic_recursion(self):
        self.assertEqual(self.scheme("rec f : all 'a . 'a -> int = fn x => f (x, x)"), (1, fun(G0, INT)))
        self.refused(NotShaped, "rec f = fn x => f (x, x) + 1")
        entries, _ = self.declaration(BASIS, "rec f : all 'a . 'a -> int = fn x => f (g x) and g : all 'a . 'a -> 'a list = fn x => (f x; x :: Nil)")
        self.assertEqual([entry[2] for entry in entries], [(1, fun(G0, INT)), (1, fun(G0, listed(G0)))])
        self.refused(NotShaped, "rec f : all 'a . 'a -> int = fn x => g (x, x) and g = fn y => f (y :: Nil)")

    def test_too_general(self):
        self.refused(
            NotShaped, "rec f : all 'a . 'a -> 'a = fn x => x + 1", "rec f : all 'a 'b . 'a -> 'b = fn x => x", "rec f : all 'a . 'a -> 'a list = fn x => x", "rec f : int = fn x => x",
            "rec f : all 'a 'b . 'a -> 'b -> 'a = fn x => fn y => (x = y; x)", "rec f : all 'a . int -> int = fn x : 'a => 3", "rec f : all 'a 'b . int -> int = fn x => let val y : 'a = raise Match val z : 'b = y in 3 end",
        )
        self.assertEqual(self.scheme("rec f : all 'a 'b . int -> int = fn x => let val y : 'a = raise Match val z : 'b = raise Match in 3 end"), (0, fun(INT, INT)))

    def test_less_general(self):
        self.assertEqual(self.scheme("rec f : int -> int = fn x => x"), (0, fun(INT, INT)))
        self.assertEqual(self.scheme("rec f : all 'b 'a . 'a -> 'b -> 'a = fn x => fn y => x"), (2, fun(G0, fun(G1, G0))))

    def test_names_in_the_rules_and_in_inner_annotations(self):
        self.assertEqual(self.scheme("rec f : all 'a . 'a -> 'a list = fn x => let rec g : all 'b . 'b -> 'a list = fn y => x :: Nil val z : 'a = x in (g 1) @ (g ()) end"), (1, fun(G0, listed(G0))))
        self.assertEqual(self.scheme("rec f : all 'a . 'a -> int = fn x => let rec g : all 'a . 'a -> 'a = fn y => y in (g 1; g (); g x; 1) end"), (1, fun(G0, INT)))
        self.refused(NotShaped, "rec f : all 'a . 'a -> int = fn x => let rec g : all 'b . 'b -> 'a = fn y => y in 1 end", "rec f : all 'a . 'a -> int = fn x => let rec g : all 'b . 'b -> 'b = fn y => x in 1 end")
        self.assertEqual(self.scheme("rec f : all 'a . 'a -> 'a = fn x => let exception E of 'a in (raise E x) handle E y => y end"), (1, fun(G0, G0)))

    def test_names_that_escape(self):
        self.refused(
            NotShaped, "val f = fn y => let rec f : all 'a . 'a -> 'a = fn x => (y = x; x) in f end", "rec f : all 'a . 'a -> int = fn x => g x and g = fn y => 1",
            "rec g = fn y => 1 and f : all 'a . 'a -> int = fn x => g x", "val f = fn y => let rec f : all 'a . 'a -> unit = fn x => y := x :: Nil in 1 end",
            "rec h = fn y => let rec f : all 'a . 'a -> unit = fn x => (h x; ()) in 1 end",
        )
        self.refused(NotShaped, "rec f : all 'a . 'a -> unit = fn x => r := x :: Nil", "rec f : all 'a . 'a -> 'a = fn x => raise (S.X x)", context=WEAK)
        entries, settled = self.declaration(WEAK, "rec g = fn y => 1 and f : all 'a . 'a -> int = fn x => g 1")
        self.assertEqual(([entry[2] for entry in entries], settled), ([(0, fun(INT, INT)), (1, fun(G0, INT))], {}))

    def test_numbers_of_two_bindings(self):
        entries, _ = self.declaration(BASIS, "rec f : all 'a . 'a -> 'a = fn x : 'a => g x and g : all 'a . 'a -> 'a = fn x : 'a => f x")
        self.assertEqual([entry[2] for entry in entries], [(1, fun(G0, G0))] * 2)


class Names(Case):
    def test_errors_of_names_come_first_and_in_order(self):
        rows = [
            ("(1 2, x, Y)", UnknownName, ("x",)), ("fn Y z => x", UnknownName, ("Y",)), ("3 : nothing", UnknownName, ("nothing",)), ("3 : list", WrongArity, ("list",)), ("(raise 3, 3 : 'a)", UnknownName, ("svar", "a")),
            ("x : nothing", UnknownName, ("x",)), ("fn (z : nothing) => x", UnknownName, ("nothing",)), ("let rec f = fn x => x and f = fn y => z in 1 2 end", DuplicateName, "f"),
            ("let rec f : all 'a 'a . 'a = fn x => y in 1 2 end", DuplicateName, "a"), ("let exception X of nothing val y = z in 1 end", UnknownName, ("nothing",)),
        ]
        for text, kind, name in rows:
            with self.subTest(text), self.assertRaises(kind) as caught:
                infer_expression(BASIS, read_expression(text))
            self.assertEqual(caught.exception.name, name)

    def test_declarations(self):
        rows = [
            ("val x = x", ("x",)), ("val (x : nothing) = y", ("nothing",)), ("rec f : 'b -> int = fn x => y", ("svar", "b")), ("rec f : all 'a . 'a -> nothing = fn x => y", ("nothing",)),
            ("alias t = nothing", ("nothing",)), ("variant t = A of nothing", ("nothing",)), ("exception E of 'a", ("svar", "a")),
        ]
        for text, name in rows:
            with self.subTest(text), self.assertRaises(UnknownName) as caught:
                infer_declaration(BASIS, read_program(text)[0])
            self.assertEqual(caught.exception.name, name)
        self.refused(DuplicateName, "rec f = fn x => z and f = fn x => 1 2", "variant t = A | A", "alias ('a, 'a) t = nothing")

    def test_too_large_is_an_error_of_names(self):
        context = extended(BASIS, [("shape", "deep", 0, towers(99, INT))])
        self.refused(TooLarge, "(1 2) : deep list", "let exception E of deep list in 1 2 end", context=context)
        self.refused(UnknownName, "x : deep list", context=context)


class Bounds(Case):
    def with_values(self, **shapes):
        return extended(BASIS, [("val", name, (len(variables(shape)) if not any(n >= FREE for n in variables(shape)) else 0, shape)) for name, shape in shapes.items()])

    def test_size(self):
        context = self.with_values(a=wide(1997, INT), b=wide(1998, INT), c=wide(1999, INT))
        self.assertEqual(size(self.expression(context, "(a, 1)")[0]), 1999)
        self.assertEqual(size(self.expression(context, "(b, 1)")[0]), 2000)
        self.refused(TooLarge, "(c, 1)", context=context)
        self.assertEqual(size(self.expression(context, "c")[0]), 1999)

    def test_depth(self):
        context = self.with_values(a=towers(97, INT), b=towers(98, INT), c=towers(99, INT))
        self.assertEqual(depth(self.expression(context, "(b, 1)")[0]), 100)
        self.assertEqual(depth(self.expression(context, "fn x => b")[0]), 100)
        self.assertEqual(depth(self.expression(context, "c")[0]), 100)
        self.refused(TooLarge, "(c, 1)", "fn x => c", "(fn x => 1) c", "let val x = (c, 1) in 1 end", "case c of x => (x, x)", "ref c", context=context)
        self.refused(NotShaped, "c 1", "c : int", context=context)

    def test_a_shape_that_only_a_part_has(self):
        context = self.with_values(c=towers(99, INT))
        self.refused(TooLarge, "let val x = fn y => c in 1 end", "case (c, 1) of _ => 1", "let rec f = fn x => (c, x) in 1 end", context=context)
        self.refused(TooLarge, "val x = (fn _ => 1) (c, 1)", "rec f = fn x => c", context=context)

    def test_shapes_that_grow_fast(self):
        doubled = "fn x => let val a = (x, x) val b = (a, a) val c = (b, b) val d = (c, c) val e = (d, d) val f = (e, e) val g = (f, f) val h = (g, g) val i = (h, h) val j = i in j end"
        self.expression(BASIS, doubled)
        self.refused(TooLarge, doubled.replace("val j = i", "val j = (i, i)"))
        self.refused(TooLarge, f"let val k = {doubled.replace('val j = i', 'val j = (i, i)')} in 1 end")
        chain = "fn x => let val a = (x, x) " + " ".join(f"val {b} = ({a}, {a})" for a, b in zip("abcdefghijk", "bcdefghijkl")) + " in 1 end"
        self.refused(TooLarge, chain)

    def test_the_context_must_stay_within_the_bounds(self):
        context = self.with_values(r=ref(A), deep=towers(99, A), d=towers(97, INT))
        self.assertEqual(self.expression(context, "r := 3")[1], {A[1]: INT})
        self.refused(TooLarge, "r := 3 :: Nil", "r := (1, 2)", context=context)
        self.refused(NotShaped, "(r := 3 :: Nil; r := 4)", context=context)
        inside = extended(BASIS, [("val", "r", (0, ref(A))), ("module", "S", (("module", "T", (("exn", "E", towers(98, A)),)),))])
        self.assertEqual(self.expression(inside, "r := 3 :: Nil")[1], {A[1]: listed(INT)})
        self.refused(TooLarge, "r := Nil :: Nil", context=inside)

    def test_the_whole_of_a_constructor_pattern(self):
        """The function from the argument to the result must be within the bounds, although no part shows it."""
        big = wide(1000, INT)
        entries = [("con", "C", 1, G0, ("c", 5, (G0,)), 0, (("C", True),)), ("val", "b", (0, listed(big))), ("val", "a", (0, listed(wide(998, INT)))), ("val", "e", (0, listed(wide(999, INT))))]
        context = extended(BASIS, entries)
        self.assertEqual(self.expression(context, "case a of C x => 1")[0], INT)
        self.assertEqual(self.expression(context, "case e of C _ => 1")[0], INT)
        self.refused(TooLarge, "case b of C _ => 1", "case b of C x => 1", context=context)
        self.assertEqual(self.expression(context, "case b of _ => 1")[0], INT)

    def test_a_constructor_whose_scheme_is_too_large(self):
        context = extended(BASIS, [("con", "C", 0, towers(99, INT), ("c", 4, ()), 0, (("C", True),)), ("exn", "E", towers(99, INT)), ("exn", "F", towers(98, INT))])
        self.refused(TooLarge, "C", "E", "fn C x => 1", "1 handle E _ => 2", context=context)
        self.expression(context, "1 handle F _ => 2")

    def test_instances(self):
        shape = ("t", tuple(("t", tuple(("v", 6 * i + j) for j in range(6))) for i in range(6)))
        context = extended(BASIS, [("val", "p", (36, shape))])
        found, _ = self.expression(context, "(p, p, p)")
        self.assertEqual(len(variables(found)), 108)


if __name__ == "__main__":
    unittest.main()
