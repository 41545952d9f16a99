"""Values that agree with shapes and levels: points 10.6 and 10.7."""

import unittest

from shapewright.agreement import agrees, agrees_with_level
from shapewright.basis import BASIS
from shapewright.levels import tidy
from shapewright.reader import read_program
from shapewright.steps import run
from shapewright.structures import declare_all
from shapewright.terms import FREE
from shapewright.whole import check_program

INT, UNIT, EXN, BOOL = [("c", stamp, ()) for stamp in (0, 1, 2, 4)]
A, B = ("v", 0), ("v", 1)
ONE, NOTHING = ("int", 1), ("tuple", ())
TRUE, NIL, NONE = ("con", 1, "True", None), ("con", 0, "Nil", None), ("con", 0, "None", None)
PACKET, EXCEPTION = ("packet", 0, "Match", None), ("exn", 0, "Match")
FUN, FIX, REF = ("fun", "x", ("var", "x"), None), ("fix", (("f", "x", ("var", "x")),), 0, None), ("ref", 0)
RECORD = ("record", ())
VALUES = [ONE, NOTHING, ("tuple", (ONE, ONE)), TRUE, NIL, PACKET, EXCEPTION, FUN, FIX, REF, RECORD, ("con", 1, "Some", ONE)]


def many(shape):
    return ("c", 5, (shape,))


def cons(first, rest):
    return ("con", 1, "Cons", ("tuple", (first, rest)))


def some(value):
    return ("con", 1, "Some", value)


class Shapes(unittest.TestCase):
    def check(self, shape, *right, entries=BASIS[0], store=(ONE,), depth=60):
        """Of the values of this test only these agree with the shape."""
        for value in VALUES:
            self.assertIs(agrees(entries, shape, value, store, depth), value in right, (shape, value))

    def says(self, holds, shape, value, store=(), depth=60, entries=BASIS[0]):
        self.assertIs(agrees(entries, shape, value, store, depth), holds, (shape, value))

    def test_each_kind_of_shape(self):
        self.check(INT, ONE)
        self.check(UNIT, NOTHING)
        self.check(EXN, PACKET)
        self.check(("t", (INT, INT)), ("tuple", (ONE, ONE)))
        self.check(("t", (INT, BOOL)))
        self.check(("t", (INT, INT, INT)))
        self.check(("f", INT, BOOL), FUN, FIX)
        self.check(("f", A, A), FUN, FIX)
        self.check(("c", 3, (INT,)), REF)
        self.check(("c", 3, (BOOL,)))
        self.check(BOOL, TRUE)
        self.check(many(INT), NIL)
        self.check(("c", 6, (INT,)), ("con", 1, "Some", ONE))
        self.check(("c", 6, (BOOL,)))
        self.check(A)
        self.check(("v", FREE))

    def test_hidden_values(self):
        self.check(("c", 8, ()), *VALUES)
        self.check(many(INT), *VALUES, entries=())

    def test_depth(self):
        for value in VALUES:
            for shape in (INT, A, ("t", (INT, INT)), BOOL, many(A)):
                self.says(True, shape, value, depth=0)
        self.says(True, ("t", (INT, INT)), ("tuple", (ONE, TRUE)), depth=1)
        self.says(False, ("t", (INT, INT)), ("tuple", (ONE, TRUE)), depth=2)
        self.says(False, ("t", (INT, INT)), ("tuple", (ONE,)), depth=1)
        self.says(True, ("c", 6, (INT,)), some(TRUE), depth=1)
        self.says(False, ("c", 6, (INT,)), some(TRUE), depth=2)
        self.says(True, ("c", 3, (INT,)), REF, (TRUE,), 1)
        self.says(False, ("c", 3, (INT,)), REF, (TRUE,), 2)
        self.says(True, many(INT), cons(ONE, cons(TRUE, NIL)), depth=4)
        self.says(False, many(INT), cons(ONE, cons(TRUE, NIL)), depth=5)

    def test_constructors(self):
        self.says(True, many(INT), cons(ONE, cons(ONE, NIL)))
        self.says(False, many(BOOL), cons(ONE, NIL))
        self.says(True, many(A), NIL)
        self.says(False, many(A), cons(ONE, NIL))
        self.says(False, BOOL, ("con", 0, "True", None))
        self.says(False, BOOL, ("con", 1, "True", ONE))
        self.says(False, ("c", 6, (INT,)), ("con", 1, "Some", None))
        self.says(False, ("c", 6, (INT,)), ("con", 0, "None", ONE))
        self.says(False, ("c", 6, (INT,)), ("con", 0, "Nil", None))
        # A constructor that no entry has is hidden.
        self.says(True, BOOL, ("con", 2, "Maybe", ONE))
        self.says(True, many(INT), ("con", 7, "Other", None))
        self.says(False, BOOL, ONE)

    def test_where_the_constructors_are_found(self):
        family = (("P", False), ("Q", True))
        s = ("c", 8, (A, B))
        first = ("con", "Q", 2, ("t", (B, A)), s, 1, family)
        value = ("con", 1, "Q", ("tuple", (ONE, TRUE)))
        shape = ("c", 8, (BOOL, INT))
        self.says(True, shape, value, entries=(first,))
        self.says(False, ("c", 8, (INT, BOOL)), value, entries=(first,))
        deep = (("module", "M", (("module", "N", (first,)),)),)
        self.says(True, shape, value, entries=deep)
        self.says(False, ("c", 8, (INT, BOOL)), value, entries=deep)
        self.says(False, shape, ONE, entries=deep)
        # The first one of an index counts.
        second = ("con", "R", 2, None, s, 1, family)
        self.says(True, shape, value, entries=(first, second))
        self.says(False, shape, value, entries=(second, first))
        self.says(False, shape, value, entries=(second, *deep))
        # Other stamps and other entries do not matter.
        self.says(True, shape, value, entries=(("con", "R", 2, None, ("c", 9, (A, B)), 1, family), first))
        self.says(True, shape, ONE, entries=(("con", "R", 2, None, ("c", 9, (A, B)), 1, family), ("exn", "Q", None)))

    def test_the_parameters_of_the_result(self):
        # The parameters of the result are replaced, whatever their order is.
        entry = ("con", "Q", 2, ("t", (A, B)), ("c", 8, (B, A)), 0, (("Q", True),))
        value = ("con", 0, "Q", ("tuple", (ONE, TRUE)))
        self.says(True, ("c", 8, (BOOL, INT)), value, entries=(entry, *BASIS[0]))
        self.says(False, ("c", 8, (INT, BOOL)), value, entries=(entry, *BASIS[0]))

    def test_references(self):
        shape = ("c", 3, (("c", 6, (("c", 3, (INT,)),)),))
        self.says(True, shape, REF, (some(("ref", 1)), ONE))
        self.says(False, shape, REF, (some(("ref", 1)), TRUE))
        cycle = ("c", 3, (many(("c", 3, (INT,))),))
        self.says(True, cycle, REF, (cons(("ref", 1), NIL), ONE))

    def check_places(self, store, right, entries=BASIS[0]):
        """Of the places around a store only the right ones hold a value that agrees with `int ref`."""
        for place in range(-len(store) - 2, len(store) + 3):
            for depth in (2, 3, 60):
                self.says(place in right, ("c", 3, (INT,)), ("ref", place), store, depth, entries)

    def test_references_to_no_place(self):
        for entries in (BASIS[0], (), (("exn", "E", None),)):
            self.check_places((), (), entries)
            self.check_places((ONE,), (0,), entries)
            self.check_places((ONE, ONE, TRUE, ONE), (0, 1, 3), entries)
        # Whether there is such a place is asked of the reference itself, what stands there only deeper.
        for place, holds in ((0, True), (1, True), (2, False), (-1, False), (-2, False), (-3, False)):
            self.says(holds, ("c", 3, (INT,)), ("ref", place), (ONE, TRUE), 1)
            self.says(True, ("c", 3, (INT,)), ("ref", place), (ONE, TRUE), 0)
        # No argument of the shape makes a place; not even a hidden one, with which any value agrees.
        for argument in (A, EXN, ("f", INT, INT), ("c", 3, (INT,)), ("c", 8, ())):
            for place in (1, -1):
                self.says(False, ("c", 3, (argument,)), ("ref", place), (ONE,), 1)
        self.says(True, ("c", 3, (("c", 8, ()),)), REF, (ONE,))
        # A reference may be hidden itself.
        self.says(True, ("c", 8, ()), ("ref", 1), ())

    def test_references_to_no_place_inside_of_values(self):
        ref = ("c", 3, (INT,))
        store = (ONE, ("ref", 4), ("ref", -1), ("ref", 0))
        for place, holds in ((0, True), (4, False), (-1, False), (-4, False)):
            found = ("ref", place)
            for shape, value, looked in (
                (("t", (INT, ref)), ("tuple", (ONE, found)), 2),
                (("t", (ref, INT)), ("tuple", (found, ONE)), 2),
                (("c", 6, (ref,)), some(found), 2),
                (many(ref), cons(REF, cons(found, NIL)), 5),
            ):
                self.says(holds, shape, value, store, looked)
                self.says(holds, shape, value, store)
                self.says(True, shape, value, store, looked - 1)
        for place, holds in ((1, False), (2, False), (3, True)):
            self.says(holds, ("c", 3, (ref,)), ("ref", place), store, 2)
            self.says(holds, ("c", 3, (ref,)), ("ref", place), store)
            self.says(True, ("c", 3, (ref,)), ("ref", place), store, 1)

    def test_shapes_beyond_the_bounds(self):
        """The argument of a constructor may have a shape that doubles at each level."""
        text = (
            "variant 'a nest = End | More of ('a * 'a) nest "
            "rec build : all 'a . int -> 'a nest = fn 0 => End | n => More (build (n - 1)) val n : int nest = build 59"
        )
        entries, context, plain, _ = check_program(read_program(text))
        end, state, _ = run(plain, 10000)
        self.assertTrue(agrees_with_level(context[0], tidy(entries), end[1], state[4], 60))


class Levels(unittest.TestCase):
    def level(self, text):
        entries, context, _, _ = declare_all(BASIS, read_program(text))
        return context[0], tidy(entries)

    def says(self, holds, text, fields, store=(), depth=60):
        entries, level = self.level(text)
        self.assertIs(agrees_with_level(entries, level, ("record", fields), store, depth), holds, fields)

    def test_fields(self):
        text = "val x = 1 val y = True"
        self.says(True, text, (("val x", ONE), ("val y", TRUE)))
        for fields in ((("val y", TRUE), ("val x", ONE)), (("val x", ONE),), (("val x", ONE), ("val y", TRUE), ("val z", ONE)), (("val x", TRUE), ("val y", TRUE)), (), (("x", ONE), ("val y", TRUE))):
            self.says(False, text, fields)
        self.says(True, "", ())
        self.says(True, "variant t = A alias u = int signature S = sig end", ())
        entries, level = self.level("")
        for value in VALUES:
            self.assertIs(agrees_with_level(entries, level, value, (), 60), value == RECORD)
            self.assertIs(agrees_with_level(entries, level, value, (), 0), value == RECORD)

    def test_exceptions_and_functors(self):
        self.says(True, "exception E", (("exn E", ("exn", 7, "E")),))
        for value in (("exn", 7, "F"), ("packet", 7, "E", None), ONE, FUN):
            self.says(False, "exception E", (("exn E", value),))
            self.says(False, "exception E", (("exn E", value),), depth=0)
        text = "functor F (X : sig end) = struct end"
        self.says(True, text, (("fun F", FUN),))
        self.says(True, text, (("fun F", FUN),), depth=0)
        for value in (FIX, ONE, RECORD):
            self.says(False, text, (("fun F", value),))

    def test_modules(self):
        text = "val x = 1 exception E module M = struct val y = True module N = struct val z = 1 :: Nil end end functor F (X : sig end) = struct end"
        inner = ("record", (("val z", cons(ONE, NIL)),))
        fields = (("val x", ONE), ("exn E", ("exn", 4, "E")), ("mod M", ("record", (("val y", TRUE), ("mod N", inner)))), ("fun F", FUN))
        self.says(True, text, fields)
        self.says(False, text, (*fields[:2], ("mod M", ("record", (("val y", ONE), ("mod N", inner)))), fields[3]))
        self.says(False, text, (*fields[:2], ("mod M", ("record", (("val y", TRUE), ("mod N", RECORD)))), fields[3]))
        self.says(False, text, (*fields[:2], ("mod M", ONE), fields[3]))
        # Records are always looked at; each value gets the whole depth.
        bad = ("record", (("val z", cons(TRUE, NIL)),))
        for depth, holds in ((0, True), (1, True), (2, True), (3, False)):
            self.says(holds, text, (*fields[:2], ("mod M", ("record", (("val y", TRUE), ("mod N", bad)))), fields[3]), depth=depth)
        self.says(False, text, (*fields[:2], ("mod M", ONE), fields[3]), depth=0)

    def test_a_value_of_a_general_variable(self):
        self.says(True, "val l = Nil", (("val l", NIL),))
        self.says(False, "val l = Nil", (("val l", cons(ONE, NIL)),))
        self.says(True, "val f = fn x => x", (("val f", FUN),))

    def test_references_to_no_place(self):
        text = "val r : int ref = ref 1 module M = struct val s : int ref option = None end"
        for first, second, holds in ((0, 1, True), (1, 0, True), (2, 0, False), (0, 2, False), (-1, 0, False), (0, -2, False)):
            inner = ("record", (("val s", some(("ref", second))),))
            fields = (("val r", ("ref", first)), ("mod M", inner))
            for depth in (2, 3, 60):
                self.says(holds, text, fields, (ONE, ONE), depth)
            # The reference of the module stands one level deeper in its value.
            self.says(first in (0, 1), text, fields, (ONE, ONE), 1)
            self.says(True, text, fields, (ONE, ONE), 0)
        for place in (0, 1, -1):
            self.says(False, "val r : int ref = ref 1", (("val r", ("ref", place)),), ())
            self.says(True, "val r : int ref = ref 1", (("val r", ("ref", place)),), (), 0)
