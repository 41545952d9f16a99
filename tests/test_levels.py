"""Levels and realizations: points 6.1 to 6.4."""

import copy
import unittest

from shapes import free, fun, listed, pair, towers, wide
from shapewright.errors import TooLarge
from shapewright.levels import realize, stamps_of, tidy
from shapewright.terms import EXN, INT, UNIT

G0, G1 = ("v", 0), ("v", 1)


def c(stamp, *args):
    return ("c", stamp, args)


def val(name, shape=INT, count=0):
    return ("val", name, (count, shape))


def shape(name, body=INT, count=0):
    return ("shape", name, count, body)


def con(name, stamp, index, argument=None, count=0):
    return ("con", name, count, argument, c(stamp, *[("v", k) for k in range(count)]), index, ((name, argument is not None),))


MODULE = ("module", "S", (val("x", c(9)), shape("t", c(10))))
FUNCTOR = ("functor", "F", ((11, 12), (shape("t", c(11)), val("x", c(13)))), (14,), (val("y", pair(c(14), c(15))), val("z", c(11))))
SIGNATURE = ("signature", "G", ((16,), (shape("t", c(16)), val("x", c(17)))))


class Tidy(unittest.TestCase):
    def test_the_last_entry_of_each_space_and_name(self):
        first, last = val("x"), val("x", UNIT)
        self.assertEqual(tidy((first, last)), (last,))
        self.assertEqual(tidy((first, val("y"), last)), (last, val("y")))
        self.assertEqual(tidy((shape("t"), shape("t", UNIT))), (shape("t", UNIT),))
        self.assertEqual(tidy((("module", "S", ()), MODULE)), (MODULE,))
        self.assertEqual(tidy((FUNCTOR, ("functor", "F", ((), ()), (), ()))), (("functor", "F", ((), ()), (), ()),))

    def test_constructors_and_exceptions_have_one_space(self):
        self.assertEqual(tidy((con("C", 8, 0), ("exn", "C", None))), (("exn", "C", None),))
        self.assertEqual(tidy((("exn", "C", INT), con("C", 8, 0))), (con("C", 8, 0),))
        self.assertEqual(tidy((con("C", 8, 0), con("C", 9, 3))), (con("C", 9, 3),))

    def test_equal_names_of_different_spaces(self):
        entries = (val("t"), shape("t"), con("S", 8, 0), ("module", "S", ()), ("functor", "S", ((), ()), (), ()))
        self.assertEqual(tidy(entries[::-1]), entries)

    def test_order(self):
        expected = (
            val("!"), val(":="), val("B_"), val("a"), val("ab"), val("b"), val("~"), shape("a"), shape("z"), con("Z", 8, 0), con("A", 8, 1), con("B", 9, 0), con("A1", 10, 2), con("C", 10, 10),
            ("exn", "D", None), ("exn", "E", INT), ("module", "A", ()), ("module", "B", ()), ("functor", "A", ((), ()), (), ()), FUNCTOR,
        )
        self.assertEqual(tidy(expected), expected)
        self.assertEqual(tidy(expected[::-1]), expected)
        self.assertEqual(tidy(expected[7:] + expected[:7]), expected)

    def test_names_and_signatures_are_left_out(self):
        self.assertEqual(tidy((("name", "a", free(0)), SIGNATURE, val("x"))), (val("x"),))
        self.assertEqual(tidy(()), ())


class Stamps(unittest.TestCase):
    def test_stamps(self):
        rows = [
            ((), ()), ((val("x", pair(c(9), fun(c(4), listed(c(9))))),), (4, 5, 9)), ((val("x", G0, 1),), ()), ((con("C", 8, 0, c(3, c(12))),), (3, 8, 12)), ((con("C", 8, 0),), (8,)), ((("exn", "E", None),), ()), ((("exn", "E", c(7)),), (7,)),
            ((shape("t", c(20, c(2)), 1),), (2, 20)), ((("name", "a", c(6)),), (6,)), ((MODULE,), (9, 10)), ((("module", "T", (MODULE, val("x", c(1)))),), (1, 9, 10)), ((FUNCTOR,), (13, 15)), ((SIGNATURE,), (17,)),
            ((FUNCTOR, SIGNATURE, val("x", c(11)), val("y", c(14)), val("z", c(16))), (11, 13, 14, 15, 16, 17)),
        ]
        for entries, stamps in rows:
            self.assertEqual(stamps_of(entries), stamps, entries)
        inner = ("functor", "H", ((30,), (shape("t", c(30)),)), (31,), (val("x", pair(c(30), c(32))),))
        self.assertEqual(stamps_of((("module", "M", (inner, SIGNATURE, val("y", c(31)))),)), (17, 31, 32))


class Realize(unittest.TestCase):
    def test_all_entries(self):
        realization = {9: (0, INT), 10: (1, pair(G0, G0)), 11: (2, fun(G1, G0))}
        shapes = [(c(9), INT), (c(10, c(9)), pair(INT, INT)), (c(11, c(9), UNIT), fun(UNIT, INT)), (pair(c(9), c(12, c(9))), pair(INT, c(12, INT))), (fun(free(2), c(9)), fun(free(2), INT)), (UNIT, UNIT)]
        for before, after in shapes:
            entries = (val("x", before), ("exn", "E", before), ("exn", "D", None), shape("t", before), ("name", "a", before))
            expected = (val("x", after), ("exn", "E", after), ("exn", "D", None), shape("t", after), ("name", "a", after))
            self.assertEqual(realize(entries, realization), expected)
            inside = (("module", "S", entries), ("functor", "F", ((9,), entries), (10,), entries), ("signature", "G", ((9,), entries)))
            wanted = (("module", "S", expected), ("functor", "F", ((9,), expected), (10,), expected), ("signature", "G", ((9,), expected)))
            self.assertEqual(realize(inside, realization), wanted)
            self.assertEqual(realize((("module", "T", inside),), realization), (("module", "T", wanted),))
            self.assertEqual(realize(inside, {}), inside)

    def test_from_the_inside_outwards(self):
        entries = (val("x", c(10, c(10, c(9)))),)
        self.assertEqual(realize(entries, {10: (1, pair(G0, INT)), 9: (0, UNIT)}), (val("x", pair(pair(UNIT, INT), INT)),))
        # What a shape function brings with it is not replaced again.
        self.assertEqual(realize(entries, {10: (1, c(9)), 9: (0, UNIT)}), (val("x", c(9)),))
        self.assertEqual(realize((val("x", pair(c(9), c(10))),), {9: (0, c(10)), 10: (0, c(9))}), (val("x", pair(c(10), c(9))),))

    def test_schemes_are_renumbered(self):
        entries = (val("x", fun(c(9, G0, G1), pair(G0, G1)), 2),)
        self.assertEqual(realize(entries, {9: (2, pair(G1, G0))}), (val("x", fun(pair(G0, G1), pair(G1, G0)), 2),))
        self.assertEqual(realize((val("x", fun(c(9, G0), c(9, G1)), 2),), {9: (1, INT)}), (val("x", fun(INT, INT), 0),))
        self.assertEqual(realize((val("x", fun(c(9, G0), G1), 2),), {9: (1, INT)}), (val("x", fun(INT, G0), 1),))
        self.assertEqual(realize((val("x", fun(free(1), c(9, G0)), 1),), {9: (1, INT)}), (val("x", fun(free(1), INT), 0),))
        # Parameters of shapes and of constructors keep their numbers.
        self.assertEqual(realize((shape("t", c(9, G0, G1), 2),), {9: (2, pair(G1, INT))}), (shape("t", pair(G1, INT), 2),))

    def test_constructors(self):
        entry = con("C", 8, 0, pair(G0, c(8, G0)), 1)
        self.assertEqual(realize((entry,), {8: (1, c(20, G0))}), (con("C", 20, 0, pair(G0, c(20, G0)), 1),))
        self.assertEqual(realize((con("D", 8, 1),), {8: (0, c(21))}), (con("D", 21, 1),))
        self.assertEqual(realize((con("D", 8, 1, c(9)),), {9: (0, UNIT)}), (con("D", 8, 1, UNIT),))

    def test_the_order_stays(self):
        entries = (val("z", c(9)), val("a", c(9)), con("Z", 9, 1), con("A", 8, 0), shape("b"), shape("a"))
        self.assertEqual([entry[1] for entry in realize(entries, {9: (0, c(7)), 8: (0, c(30))})], ["z", "a", "Z", "A", "b", "a"])

    def test_shapes_that_are_too_large(self):
        for entries in ((val("x", pair(c(9), INT)),), (("exn", "E", pair(c(9), INT)),), (shape("t", pair(c(9), INT)),), (con("C", 8, 0, pair(c(9), INT)),)):
            for whole in (entries, (("module", "S", entries),), (("functor", "F", ((), entries), (), ()),), (("functor", "F", ((), ()), (), entries),), (("signature", "G", ((), entries)),)):
                realize(whole, {9: (0, towers(98, INT))})
                realize(whole, {9: (0, wide(1998, INT))})
                for large in (towers(99, INT), wide(1999, INT)):
                    with self.assertRaises(TooLarge):
                        realize(whole, {9: (0, large)})

    def test_only_the_result_must_be_within_the_bounds(self):
        entries = (val("x", c(10, pair(c(9), INT))),)
        self.assertEqual(realize(entries, {9: (0, wide(1999, INT)), 10: (1, UNIT)}), (val("x", UNIT),))
        grown = INT
        for _ in range(90):
            grown = c(9, grown)
        with self.assertRaises(TooLarge):
            realize((val("x", grown),), {9: (1, pair(G0, G0))})
        self.assertEqual(realize((val("x", c(10, grown)),), {9: (1, pair(G0, G0)), 10: (1, UNIT)}), (val("x", UNIT),))

    def test_arguments_stay_as_they_are(self):
        entries, realization = (MODULE, FUNCTOR, SIGNATURE, val("x", EXN)), {9: (0, INT)}
        before = copy.deepcopy((entries, realization))
        tidy(entries), stamps_of(entries), realize(entries, realization)
        self.assertEqual((entries, realization), before)


if __name__ == "__main__":
    unittest.main()
