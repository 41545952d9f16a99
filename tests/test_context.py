"""Contexts: 2.11 to 2.13, and the entries of 6.2 as far as they reach here."""

import copy
import unittest

from shapes import FREE, free, fun, listed, towers
from shapewright.context import constructor_scheme, free_variables, lookup, settle
from shapewright.errors import TooLarge
from shapewright.terms import EXN, INT, UNIT

V = [free(k) for k in range(12)]
G0, G1 = ("v", 0), ("v", 1)


def val(name, shape=INT, count=0):
    return ("val", name, (count, shape))


LIST_FAMILY = (("Nil", False), ("Cons", True))
NIL = ("con", "Nil", 1, None, listed(G0), 0, LIST_FAMILY)
CONS = ("con", "Cons", 1, ("t", (G0, listed(G0))), listed(G0), 1, LIST_FAMILY)


class Lookup(unittest.TestCase):
    def test_the_last_entry_of_the_space(self):
        entries = (
            val("x"), ("shape", "x", 0, INT), ("name", "x", V[0]), val("x", UNIT), ("shape", "x", 0, UNIT), val("y"),
        )
        self.assertEqual(lookup(entries, "val", ("x",)), val("x", UNIT))
        self.assertEqual(lookup(entries, "shape", ("x",)), ("shape", "x", 0, UNIT))
        self.assertEqual(lookup(entries, "name", ("x",)), ("name", "x", V[0]))
        self.assertEqual(lookup(entries, "val", ("y",)), val("y"))
        for space in ("con", "module", "functor", "signature"):
            self.assertIsNone(lookup(entries, space, ("x",)))
        self.assertIsNone(lookup(entries, "val", ("z",)))
        self.assertIsNone(lookup((), "val", ("x",)))

    def test_exceptions_stand_among_the_constructors(self):
        exception = ("exn", "C", INT)
        constructor = ("con", "C", 0, None, ("c", 8, ()), 0, (("C", False),))
        self.assertEqual(lookup((exception,), "con", ("C",)), exception)
        self.assertEqual(lookup((exception, constructor), "con", ("C",)), constructor)
        self.assertEqual(lookup((constructor, exception), "con", ("C",)), exception)
        self.assertIsNone(lookup((exception,), "exn", ("C",)))

    def test_modules_functors_and_signatures_have_spaces_of_their_own(self):
        module = ("module", "A", (val("x"),))
        functor = ("functor", "A", ((), ()), (), ())
        signature = ("signature", "A", ((), ()))
        exception = ("exn", "A", None)
        entries = (module, functor, signature, exception)
        self.assertEqual(lookup(entries, "module", ("A",)), module)
        self.assertEqual(lookup(entries, "functor", ("A",)), functor)
        self.assertEqual(lookup(entries, "signature", ("A",)), signature)
        self.assertEqual(lookup(entries, "con", ("A",)), exception)
        self.assertEqual(lookup(entries, "val", ("A", "x")), val("x"))

    def test_paths_through_modules(self):
        inner = ("module", "T", (val("x", UNIT), ("shape", "t", 0, INT), ("exn", "C", None), ("functor", "F", ((), ()), (), ())))
        outer = ("module", "S", (val("x"), inner, ("module", "U", ())))
        entries = (val("x", V[0]), ("module", "S", ()), outer, ("module", "T", ()))
        self.assertEqual(lookup(entries, "val", ("S", "x")), val("x"))
        self.assertEqual(lookup(entries, "val", ("S", "T", "x")), val("x", UNIT))
        self.assertEqual(lookup(entries, "shape", ("S", "T", "t")), ("shape", "t", 0, INT))
        self.assertEqual(lookup(entries, "con", ("S", "T", "C")), ("exn", "C", None))
        self.assertEqual(lookup(entries, "functor", ("S", "T", "F")), ("functor", "F", ((), ()), (), ()))
        self.assertEqual(lookup(entries, "module", ("S", "T")), inner)
        for space, path in (
            ("val", ("T", "x")), ("val", ("S", "y")), ("val", ("S", "U", "x")), ("val", ("S", "V", "x")), ("val", ("V", "x")), ("val", ("S", "T", "U", "x")),
            ("module", ("S", "S")), ("val", ("x", "x")), ("shape", ("S", "t")), ("con", ("S", "C")), ("module", ("V",)),
        ):
            self.assertIsNone(lookup(entries, space, path), path)

    def test_only_modules_lead_on(self):
        entries = (("functor", "S", ((), (val("x"),)), (), (val("x"),)), ("signature", "S", ((), (val("x"),))), ("exn", "S", None))
        self.assertIsNone(lookup(entries, "val", ("S", "x")))


class Free(unittest.TestCase):
    def test_every_kind_of_entry(self):
        for entry, numbers in (
            (val("x"), ()), (val("x", V[1]), (1,)), (val("x", fun(G0, fun(V[2], V[1])), 1), (2, 1)), (("exn", "C", None), ()), (("exn", "C", V[3]), (3,)),
            (NIL, ()), (CONS, ()), (("con", "C", 0, V[4], ("c", 5, (V[5],)), 0, (("C", True),)), (4, 5)), (("con", "C", 1, None, ("c", 6, (V[6],)), 0, (("C", False),)), (6,)),
            (("shape", "t", 1, fun(G0, V[1])), (1,)), (("shape", "t", 0, INT), ()), (("name", "a", V[7]), (7,)), (("name", "a", fun(V[2], V[1])), (2, 1)),
            (("module", "S", ()), ()), (("module", "S", (val("x", V[1]), ("module", "T", (val("y", V[0]),)))), (1, 0)),
            (("functor", "F", ((8,), (val("x", V[1]),)), (), (val("y", V[2]), ("module", "T", (val("y", V[0]),)))), (2, 0)), (("signature", "G", ((), (val("x", V[1]),))), ()),
        ):
            self.assertEqual(free_variables((entry,)), tuple(FREE + k for k in numbers), entry)

    def test_the_order_of_first_occurrence_without_duplicates(self):
        entries = (
            val("x", fun(V[3], V[1])), ("name", "a", V[1]), ("module", "S", (val("y", V[4]), ("exn", "C", V[3]))), val("z", fun(G0, V[0]), 1),
            ("functor", "F", ((), ()), (), (val("y", fun(V[5], V[4])),)), val("x", V[2]),
        )
        self.assertEqual(free_variables(entries), tuple(FREE + k for k in (3, 1, 4, 0, 5, 2)))
        self.assertEqual(free_variables(()), ())

    def test_a_hidden_entry_counts(self):
        self.assertEqual(free_variables((val("x", V[0]), val("x", INT))), (FREE,))

    def test_parameters_are_not_free(self):
        self.assertEqual(free_variables((val("x", fun(G0, G1), 2), ("shape", "t", 2, fun(G0, G1)), CONS)), ())
        self.assertEqual(free_variables((val("x", fun(("v", 999999), V[0]), 1),)), (FREE,))


class Settling(unittest.TestCase):
    MAPPING = {FREE: INT, FREE + 1: listed(V[9]), FREE + 2: V[3]}

    def test_every_kind_of_entry(self):
        family = (("C", True),)
        for entry, settled in (
            (val("x", fun(V[0], V[4])), val("x", fun(INT, V[4]))), (val("x", fun(G0, fun(V[1], G0)), 1), val("x", fun(G0, fun(listed(V[9]), G0)), 1)),
            (("exn", "C", None), ("exn", "C", None)), (("exn", "C", V[2]), ("exn", "C", V[3])), (NIL, NIL), (CONS, CONS),
            (("con", "C", 1, fun(G0, V[0]), ("c", 5, (V[1],)), 0, family), ("con", "C", 1, fun(G0, INT), ("c", 5, (listed(V[9]),)), 0, family)),
            (("con", "C", 0, None, ("c", 5, (V[0],)), 0, family), ("con", "C", 0, None, listed(INT), 0, family)),
            (("shape", "t", 1, fun(G0, V[0])), ("shape", "t", 1, fun(G0, INT))), (("name", "a", V[0]), ("name", "a", INT)),
            (("module", "S", (val("x", V[0]), ("module", "T", (val("y", V[1]),)))), ("module", "S", (val("x"), ("module", "T", (val("y", listed(V[9])),))))),
            (("functor", "F", ((8,), (val("x"),)), (9,), (val("y", V[0]),)), ("functor", "F", ((8,), (val("x"),)), (9,), (val("y", INT),))),
            (("signature", "G", ((8,), (val("x"),))), ("signature", "G", ((8,), (val("x"),)))),
        ):
            self.assertEqual(settle((entry,), self.MAPPING), (settled,))

    def test_all_at_once_and_in_order(self):
        entries = (val("x", fun(V[0], V[1])), val("y", V[1]), val("x", V[0]))
        self.assertEqual(settle(entries, {FREE: V[1], FREE + 1: V[0]}), (val("x", fun(V[1], V[0])), val("y", V[0]), val("x", V[1])))
        self.assertEqual(settle(entries, {}), entries)
        self.assertEqual(settle((), self.MAPPING), ())

    def test_only_free_variables_are_settled(self):
        entries = (val("x", fun(G0, V[0]), 1), CONS, ("shape", "t", 1, listed(G0)))
        self.assertEqual(settle(entries, {0: UNIT, FREE: INT}), (val("x", fun(G0, INT), 1), CONS, ("shape", "t", 1, listed(G0))))

    def test_nothing_is_changed(self):
        entries, mapping = (val("x", V[0]), ("module", "S", (val("y", V[1]),))), dict(self.MAPPING)
        before = copy.deepcopy(entries)
        settle(entries, mapping)
        self.assertEqual((entries, mapping), (before, self.MAPPING))

    def test_too_large(self):
        shape = V[0]
        for _ in range(9):
            shape = ("t", (shape, shape))
        settle((val("x", shape),), {FREE: listed(INT)})
        with self.assertRaises(TooLarge):
            settle((val("x", shape),), {FREE: fun(INT, INT)})
        with self.assertRaises(TooLarge):
            settle((("module", "S", (val("x", shape),)),), {FREE: fun(INT, INT)})


class Constructors(unittest.TestCase):
    def test_with_and_without_argument(self):
        self.assertEqual(constructor_scheme(NIL), (1, listed(G0)))
        self.assertEqual(constructor_scheme(CONS), (1, fun(("t", (G0, listed(G0))), listed(G0))))
        self.assertEqual(constructor_scheme(("con", "True", 0, None, ("c", 4, ()), 1, (("False", False), ("True", False)))), (0, ("c", 4, ())))

    def test_parameters_are_renumbered(self):
        result = ("c", 8, (G0, G1))
        family = (("C", True),)
        self.assertEqual(constructor_scheme(("con", "C", 2, G1, result, 0, family)), (2, fun(G0, ("c", 8, (G1, G0)))))
        self.assertEqual(constructor_scheme(("con", "C", 2, fun(G1, G1), result, 0, family)), (2, fun(fun(G0, G0), ("c", 8, (G1, G0)))))
        self.assertEqual(constructor_scheme(("con", "C", 2, INT, result, 0, family)), (2, fun(INT, result)))
        self.assertEqual(constructor_scheme(("con", "C", 2, None, result, 0, family)), (2, result))
        self.assertEqual(constructor_scheme(("con", "C", 2, G0, result, 0, family)), (2, fun(G0, result)))

    def test_exceptions(self):
        self.assertEqual(constructor_scheme(("exn", "E", None)), (0, EXN))
        self.assertEqual(constructor_scheme(("exn", "E", INT)), (0, fun(INT, EXN)))
        self.assertEqual(constructor_scheme(("exn", "E", listed(V[2]))), (0, fun(listed(V[2]), EXN)))

    def test_too_large(self):
        argument = towers(98, INT)
        constructor_scheme(("exn", "E", argument))
        with self.assertRaises(TooLarge):
            constructor_scheme(("exn", "E", listed(argument)))
        with self.assertRaises(TooLarge):
            constructor_scheme(("con", "C", 0, listed(argument), ("c", 8, ()), 0, (("C", True),)))
