"""Schemes: 2.8 to 2.10."""

import unittest

from shapes import FREE, fun, listed, pair
from shapewright.errors import TooLarge
from shapewright.schemes import at_least_as_general, close, instantiate, match_instance
from shapewright.terms import INT, UNIT, size

X, Y, Z = ("v", FREE), ("v", FREE + 1), ("v", FREE + 2)
G0, G1, G2 = ("v", 0), ("v", 1), ("v", 2)


class Closing(unittest.TestCase):
    def test_general_variables_are_numbered_by_first_occurrence(self):
        for shape, fixed, scheme in (
            (INT, (), (0, INT)), (X, (), (1, G0)), (fun(Y, X), (), (2, fun(G0, G1))), (fun(X, fun(Y, X)), (), (2, fun(G0, fun(G1, G0)))),
            (("t", (Z, X, Y, X, Z)), (), (3, ("t", (G0, G1, G2, G1, G0)))), (fun(listed(Y), pair(Y, X)), (), (2, fun(listed(G0), pair(G0, G1)))),
        ):
            self.assertEqual(close(shape, fixed), scheme)

    def test_fixed_variables_stay(self):
        for shape, fixed, scheme in (
            (X, (FREE,), (0, X)), (fun(Y, X), (FREE,), (1, fun(G0, X))), (fun(Y, X), (FREE + 1,), (1, fun(Y, G0))),
            (fun(Y, X), (FREE + 1, FREE), (0, fun(Y, X))), (fun(Y, X), (FREE + 7,), (2, fun(G0, G1))), (("t", (X, Y, Z)), (FREE + 1,), (2, ("t", (G0, Y, G1)))),
        ):
            self.assertEqual(close(shape, fixed), scheme)

    def test_schemes_that_differ_in_numbers_only_do_not_exist(self):
        self.assertEqual(close(fun(Y, fun(Z, Y)), ()), close(fun(Z, fun(X, Z)), ()))
        self.assertNotEqual(close(fun(X, Y), ()), close(fun(X, X), ()))


class Instances(unittest.TestCase):
    def test_instantiate(self):
        self.assertEqual(instantiate((0, fun(X, INT)), ()), fun(X, INT))
        self.assertEqual(instantiate((1, fun(G0, G0)), (INT,)), fun(INT, INT))
        self.assertEqual(instantiate((2, fun(G0, fun(G1, X))), (listed(Y), INT)), fun(listed(Y), fun(INT, X)))
        self.assertEqual(instantiate((2, fun(G0, G1)), (G1, G0)), fun(G1, G0))
        self.assertEqual(instantiate((1, fun(G0, X)), (X,)), fun(X, X))

    def test_an_instance_that_is_too_large(self):
        shape = G0
        for _ in range(9):
            shape = pair(shape, shape)
        self.assertEqual(size(instantiate((1, shape), (listed(INT),))), 511 + 512 * 2)
        with self.assertRaises(TooLarge):
            instantiate((1, shape), (pair(INT, INT),))

    def test_match_instance(self):
        for scheme, shape, shapes in (
            ((0, INT), INT, ()), ((0, INT), UNIT, None), ((1, G0), INT, (INT,)), ((1, fun(G0, G0)), fun(INT, INT), (INT,)),
            ((1, fun(G0, G0)), fun(INT, UNIT), None), ((2, fun(G0, G1)), fun(INT, UNIT), (INT, UNIT)), ((2, fun(G0, G1)), fun(INT, INT), (INT, INT)),
            ((2, fun(G0, fun(G1, G0))), fun(X, fun(Y, X)), (X, Y)), ((2, fun(G0, fun(G1, G0))), fun(X, fun(Y, Y)), None), ((1, listed(G0)), listed(fun(X, Y)), (fun(X, Y),)),
            ((1, listed(G0)), ("c", 6, (X,)), None), ((1, listed(G0)), X, None), ((0, X), X, ()), ((0, X), Y, None), ((0, X), INT, None), ((1, fun(X, G0)), fun(X, Y), (Y,)),
            ((1, fun(X, G0)), fun(Y, Y), None), ((1, fun(G0, X)), fun(fun(X, X), X), (fun(X, X),)), ((1, pair(G0, INT)), ("t", (X, INT, INT)), None), ((1, pair(G0, INT)), fun(X, INT), None),
            ((1, fun(G0, G0)), fun(G0, G0), (G0,)), ((1, fun(G0, G0)), fun(G1, G1), (G1,)), ((0, listed(INT)), listed(INT), ()), ((0, listed(INT)), listed(UNIT), None), ((1, G0), fun(X, X), (fun(X, X),)),
        ):
            self.assertEqual(match_instance(scheme, shape), shapes, (scheme, shape))

    def test_match_instance_finds_what_instantiate_made(self):
        scheme = (3, fun(pair(G0, G1), fun(listed(G2), pair(G1, X))))
        for shapes in ((INT, UNIT, X), (X, Y, Z), (listed(X), fun(X, Y), INT), (X, X, X)):
            self.assertEqual(match_instance(scheme, instantiate(scheme, shapes)), shapes)


class Generality(unittest.TestCase):
    def test_comparisons(self):
        identity, constant, ints = (1, fun(G0, G0)), (2, fun(G0, fun(G1, G0))), (0, fun(INT, INT))
        general, both = (2, fun(G0, G1)), (1, fun(G0, fun(G0, G0)))
        for scheme, other, first, second in (
            (identity, identity, True, True), (identity, ints, True, False), (general, identity, True, False), (constant, both, True, False),
            (identity, constant, False, False), (general, constant, True, False), ((1, G0), general, True, False), ((1, G0), (0, INT), True, False),
            ((0, INT), (0, INT), True, True), ((0, INT), (0, UNIT), False, False), ((1, fun(G0, INT)), (1, fun(INT, G0)), False, False),
            ((1, listed(G0)), (1, listed(listed(G0))), True, False), ((2, pair(G0, G1)), (2, pair(G0, G1)), True, True),
            ((1, listed(G0)), (1, ("c", 6, (G0,))), False, False),
        ):
            self.assertIs(at_least_as_general(scheme, other), first, (scheme, other))
            self.assertIs(at_least_as_general(other, scheme), second, (other, scheme))

    def test_free_variables_are_not_general(self):
        self.assertTrue(at_least_as_general((1, fun(G0, G0)), (0, fun(X, X))))
        self.assertFalse(at_least_as_general((0, fun(X, X)), (1, fun(G0, G0))))
        self.assertFalse(at_least_as_general((0, fun(X, X)), (0, fun(Y, Y))))
        self.assertFalse(at_least_as_general((0, X), (0, INT)))
        self.assertTrue(at_least_as_general((0, fun(X, Y)), (0, fun(X, Y))))
        self.assertTrue(at_least_as_general((1, fun(X, G0)), (1, fun(X, listed(G0)))))
        self.assertFalse(at_least_as_general((1, fun(X, G0)), (2, fun(G0, G1))))

    def test_the_stamps_of_the_schemes_are_no_general_variables(self):
        for stamp in range(12):
            constant = ("c", stamp, ())
            self.assertFalse(at_least_as_general((0, constant), (1, G0)))
            self.assertFalse(at_least_as_general((1, fun(G0, constant)), (2, fun(G0, G1))))
            self.assertFalse(at_least_as_general((0, fun(constant, constant)), (2, fun(G0, G1))))
            self.assertTrue(at_least_as_general((2, fun(G0, G1)), (1, fun(G0, constant))))
        self.assertFalse(at_least_as_general((1, fun(G0, G0)), (2, fun(G0, G1))))
