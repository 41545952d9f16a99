"""Shapes and substitutions: 2.1 to 2.5."""

import unittest

from shapes import towers, wide
from shapewright.errors import TooLarge
from shapewright.terms import ARITIES, BOOL, EXN, INT, UNIT, depth, is_shape, size, substitute, variables

X, Y, Z = ("v", 1000000), ("v", 1000001), ("v", 1000002)


class Shapes(unittest.TestCase):
    def test_what_is_a_shape(self):
        for value in (
            ("v", 0), ("v", 999999), ("v", 1000000), ("v", 10 ** 12), INT, UNIT, EXN, BOOL, ("c", 7, ()), ("c", 3, (INT,)),
            ("c", 5, (("v", 0),)), ("c", 6, (X,)), ("t", (INT, X)), ("t", (X,) * 6), ("f", X, ("f", INT, X)), ("f", ("t", (X, X)), X),
        ):
            self.assertIs(is_shape(value, ARITIES), True, value)

    def test_what_is_no_shape(self):
        for value in (
            0, 1, "v", "", (), ((),), ("v",), ("v", -1), ("v", "a"), ("v", ()), ("v", 0, 0), ("v", (0,)), (0, 1), ("x", 0), ("V", 0),
            ("c",), ("c", 0), ("c", 0, 0), ("c", 0, (INT,)), ("c", 3, ()), ("c", 3, (INT, INT)), ("c", 8, ()), ("c", -1, ()), ("c", "0", ()),
            ("c", 0, (), ()), ("c", 0, "", ), ("c", 3, INT), ("c", (0,), ()), ("t", ()), ("t", (INT,)), ("t", (INT,) * 7), ("t", INT), ("t",),
            ("t", INT, INT), ("t", "ab"), ("f", INT), ("f", INT, INT, INT), ("f", (INT, INT)), ("f", INT, 0), ("f", (), INT), ("f", INT, ("v",)),
            ("t", (INT, ("v", -1))), ("x", 0, ()), (0, 0, ()), ("con", 0, ()), ("cc", 0, ()), ("c", 3, (("c", 0, (INT,)),)), ("f", ("t", (INT,)), INT), ("svar", "a"), ("sarrow", INT, INT),
        ):
            self.assertIs(is_shape(value, ARITIES), False, value)

    def test_stamps_are_those_of_the_arities(self):
        self.assertFalse(is_shape(INT, ()))
        self.assertTrue(is_shape(INT, (0,)))
        self.assertFalse(is_shape(INT, (1,)))
        self.assertFalse(is_shape(("c", 8, (X, X)), ARITIES))
        self.assertTrue(is_shape(("c", 8, (X, X)), (*ARITIES, 2)))
        self.assertFalse(is_shape(("c", 8, (X,)), (*ARITIES, 2)))

    def test_sizes_of_2000_and_2001(self):
        self.assertTrue(is_shape(wide(2000, INT), ARITIES))
        self.assertFalse(is_shape(wide(2001, INT), ARITIES))
        self.assertTrue(is_shape(wide(2000, X), ARITIES))
        self.assertEqual((size(wide(2000, INT)), size(wide(2001, INT))), (2000, 2001))

    def test_depths_of_100_and_101(self):
        for make in (self.lists, self.arrows, self.pairs):
            self.assertTrue(is_shape(make(99), ARITIES))
            self.assertFalse(is_shape(make(100), ARITIES))
            self.assertEqual((depth(make(99)), depth(make(100))), (100, 101))

    def lists(self, levels):
        return towers(levels, X)

    def arrows(self, levels):
        shape = X
        for _ in range(levels):
            shape = ("f", INT, shape)
        return shape

    def pairs(self, levels):
        shape = X
        for _ in range(levels):
            shape = ("t", (shape, INT))
        return shape

    def test_shared_parts_are_counted_as_often_as_they_occur(self):
        shape = X
        for _ in range(60):
            shape = ("t", (shape, shape))
        self.assertFalse(is_shape(shape, ARITIES))

    def test_size_and_depth(self):
        for shape, count, deep in (
            (X, 1, 1), (INT, 1, 1), (("c", 5, (X,)), 2, 2), (("t", (X, Y, INT)), 4, 2), (("f", X, Y), 3, 2),
            (("f", ("t", (X, ("c", 5, (INT,)))), X), 6, 4), (("t", (X, ("f", X, ("f", X, X)))), 7, 4),
        ):
            self.assertEqual((size(shape), depth(shape)), (count, deep), shape)

    def test_the_order_of_variables(self):
        for shape, numbers in (
            (INT, ()), (X, (1000000,)), (("f", Y, X), (1000001, 1000000)), (("t", (X, Y, X, Z, Y)), (1000000, 1000001, 1000002)),
            (("f", ("t", (Z, X)), ("c", 5, (Y,))), (1000002, 1000000, 1000001)), (("f", ("v", 1), ("f", ("v", 0), ("v", 1))), (1, 0)),
            (("f", ("f", X, Y), ("f", Z, ("v", 5))), (1000000, 1000001, 1000002, 5)),
        ):
            self.assertEqual(variables(shape), numbers)


class Substitutions(unittest.TestCase):
    def test_all_at_once(self):
        mapping = {1000000: Y, 1000001: X}
        self.assertEqual(substitute(("f", X, ("t", (Y, Z, X))), mapping), ("f", Y, ("t", (X, Z, Y))))
        self.assertEqual(substitute(X, {1000000: ("f", X, X)}), ("f", X, X))
        self.assertEqual(substitute(("f", X, Y), {1000000: ("c", 5, (Y,)), 1000001: INT}), ("f", ("c", 5, (Y,)), INT))

    def test_parameters_and_free_variables(self):
        shape = ("c", 6, (("t", (("v", 0), ("v", 1), X)),))
        self.assertEqual(substitute(shape, {0: INT, 1: ("v", 0)}), ("c", 6, (("t", (INT, ("v", 0), X)),)))
        self.assertEqual(substitute(shape, {}), shape)
        self.assertEqual(substitute(shape, {7: INT}), shape)
        self.assertEqual(substitute(INT, {0: X}), INT)

    def test_nothing_is_changed(self):
        shape, mapping = ("f", X, ("t", (X, Y))), {1000000: ("f", Y, INT), 1000001: X}
        substitute(shape, mapping)
        self.assertEqual(shape, ("f", X, ("t", (X, Y))))
        self.assertEqual(mapping, {1000000: ("f", Y, INT), 1000001: X})

    def test_too_large_just_where_the_result_is(self):
        pair = ("t", (X, X))
        self.assertEqual(size(substitute(pair, {1000000: wide(999, INT)})), 1999)
        with self.assertRaises(TooLarge):
            substitute(pair, {1000000: wide(1000, INT)})
        self.assertEqual(size(substitute(("c", 5, (X,)), {1000000: wide(1999, INT)})), 2000)
        with self.assertRaises(TooLarge):
            substitute(("c", 5, (X,)), {1000000: wide(2000, INT)})
        self.assertEqual(size(substitute(("t", (X, Y)), {1000000: wide(1998, INT), 1000001: INT})), 2000)
        with self.assertRaises(TooLarge):
            substitute(("t", (X, Y)), {1000000: wide(1998, INT), 1000001: ("c", 5, (INT,))})

    def test_too_deep_just_where_the_result_is(self):
        self.assertEqual(depth(substitute(towers(50, X), {1000000: towers(49, INT)})), 100)
        with self.assertRaises(TooLarge):
            substitute(towers(50, X), {1000000: towers(50, INT)})
        deep = ("t", (towers(60, X), towers(30, Y)))
        self.assertEqual(depth(substitute(deep, {1000000: INT, 1000001: towers(68, INT)})), 100)
        with self.assertRaises(TooLarge):
            substitute(deep, {1000000: INT, 1000001: towers(69, INT)})

    def test_large_shapes_that_do_not_get_into_the_result(self):
        huge = ("t", (wide(2000, INT), wide(2000, INT)))
        self.assertEqual(substitute(("f", X, INT), {1000001: huge, 1000000: INT}), ("f", INT, INT))
        # A stamp is no variable, though its number may be the same.
        self.assertEqual(substitute(("f", INT, ("c", 5, (UNIT,))), {0: huge, 1: huge, 5: huge}), ("f", INT, ("c", 5, (UNIT,))))

    def test_a_shape_may_become_smaller_or_stay(self):
        self.assertEqual(substitute(wide(2000, X), {1000000: INT}), wide(2000, INT))
        self.assertEqual(substitute(wide(2000, INT), {1000000: wide(2000, INT)}), wide(2000, INT))
        self.assertEqual(substitute(towers(99, X), {1000000: Y}), towers(99, Y))

    def test_a_result_that_could_not_be_built(self):
        with self.assertRaises(TooLarge):
            substitute(wide(2000, X), {1000000: wide(2000, X)})
        shape, mapping = wide(1500, X), {1000000: wide(1999, INT)}
        for _ in range(50):
            with self.assertRaises(TooLarge):
                substitute(shape, mapping)
