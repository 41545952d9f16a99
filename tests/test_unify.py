"""Equations and most general unifiers: 2.6 and 2.7."""

import copy
import random
import unittest

from shapes import FREE, free, fun, listed, pair, towers, wide
from shapewright.errors import NotUnifiable, TooLarge
from shapewright.terms import INT, UNIT, depth, is_shape, size, substitute, variables
from shapewright.unify import unifies, unify

A, B, C, D = [free(k) for k in range(4)]
ARITIES = (0, 0, 0, 1, 0, 1, 1, 0, 2)


# A plain unifier for small shapes, to compare with.

def plainly(equations):
    mapping = {}
    waiting = list(equations)
    while waiting:
        left, right = [apply(mapping, side) for side in waiting.pop(0)]
        if left == right:
            continue
        if left[0] == "v" or right[0] == "v":
            variable, shape = (left, right) if left[0] == "v" else (right, left)
            if variable[1] in variables(shape):
                return None
            mapping = {key: apply({variable[1]: shape}, value) for key, value in mapping.items()}
            mapping[variable[1]] = shape
        elif left[0] != right[0] or len(parts(left)) != len(parts(right)) or (left[0] == "c" and left[1] != right[1]):
            return None
        else:
            waiting = list(zip(parts(left), parts(right))) + waiting
    return mapping


def parts(shape):
    return () if shape[0] == "v" else shape[1:] if shape[0] == "f" else shape[-1]


def apply(mapping, shape):
    if shape[0] == "v":
        return mapping.get(shape[1], shape)
    if shape[0] == "f":
        return ("f", apply(mapping, shape[1]), apply(mapping, shape[2]))
    return (*shape[:-1], tuple(apply(mapping, part) for part in shape[-1]))


def random_shape(source, deep, names):
    kind = source.choice("vvvcctf") if deep > 1 else source.choice("vvc")
    if kind == "v":
        return ("v", source.choice(names))
    if kind == "c":
        stamp = source.choice((0, 1, 5, 8)) if deep > 1 else source.choice((0, 1))
        return ("c", stamp, tuple(random_shape(source, deep - 1, names) for _ in range(ARITIES[stamp])))
    if kind == "t":
        return ("t", tuple(random_shape(source, deep - 1, names) for _ in range(source.choice((2, 2, 3)))))
    return fun(random_shape(source, deep - 1, names), random_shape(source, deep - 1, names))


class Unify(unittest.TestCase):
    def conditions(self, equations, found):
        """The conditions of a most general unifier, but for the third one with all other unifiers."""
        self.assertTrue(unifies(found, equations))
        used = set()
        for left, right in equations:
            used.update(variables(left))
            used.update(variables(right))
        inner = {n for shape in found.values() for n in variables(shape)}
        self.assertLessEqual(set(found) | inner, used)
        self.assertFalse(set(found) & inner)

    def more_general(self, found, other):
        """The third condition for one other unifier."""
        for key, shape in found.items():
            self.assertEqual(apply(other, ("v", key)), apply(other, shape))

    def same(self, equations):
        """The result has the conditions, and it and that of the plain unifier are each as general as the other."""
        expected = plainly(equations)
        if expected is None:
            with self.assertRaises(NotUnifiable):
                unify(equations)
            return False
        found = unify(equations)
        self.conditions(equations, found)
        self.more_general(found, expected)
        self.more_general(expected, found)
        return True

    def test_equations_with_a_unifier(self):
        for equations in (
            [], [(A, A)], [(INT, INT)], [(A, INT)], [(INT, A)], [(A, B)], [(A, B), (B, A)], [(A, B), (B, C), (C, D)], [(fun(A, B), fun(INT, UNIT))],
            [(pair(A, B), pair(B, INT))], [(A, listed(B)), (B, INT)], [(listed(A), listed(listed(B)))], [(A, fun(B, C)), (A, fun(C, B))],
            [(A, INT), (A, INT)], [(A, INT), (INT, A)], [(fun(A, A), fun(fun(B, C), fun(C, B)))], [(A, B), (A, INT)], [(fun(A, B), C), (C, fun(B, A))],
            [(("v", 0), ("v", 1)), (("v", 1), listed(A))], [(("v", 5), INT), (listed(A), listed(UNIT))], [(("v", 0), UNIT), (A, INT)], [(("t", (A, B, C)), ("t", (B, C, INT)))],
        ):
            self.assertTrue(self.same(equations), equations)

    def test_equations_without_a_unifier(self):
        for equations in (
            [(INT, UNIT)], [(INT, listed(INT))], [(INT, pair(INT, INT))], [(INT, fun(INT, INT))], [(pair(A, B), fun(A, B))],
            [(pair(A, B), ("t", (A, B, C)))], [(listed(A), ("c", 6, (A,)))], [(A, INT), (A, UNIT)], [(fun(A, A), fun(INT, UNIT))],
            [(A, B), (B, C), (A, INT), (C, UNIT)], [(A, listed(B)), (B, INT), (A, listed(UNIT))], [(listed(INT), listed(UNIT))],
        ):
            self.assertFalse(self.same(equations), equations)

    def test_a_variable_against_a_shape_that_contains_it(self):
        for equations in (
            [(A, listed(A))], [(listed(A), A)], [(A, fun(A, B))], [(A, pair(B, listed(A)))], [(A, listed(B)), (B, listed(A))],
            [(A, B), (A, listed(B))], [(A, fun(B, INT)), (B, fun(C, INT)), (C, pair(A, A))], [(fun(A, B), fun(listed(B), listed(A)))],
        ):
            self.assertFalse(self.same(equations), equations)
        self.assertTrue(self.same([(A, A), (listed(A), listed(A))]))

    def test_the_same_equation_twice_and_turned_round(self):
        equation = (fun(A, listed(B)), fun(pair(B, C), A))
        turned = (equation[1], equation[0])
        self.assertFalse(self.same([equation]))
        equation = (fun(A, listed(B)), fun(pair(B, C), D))
        turned = (equation[1], equation[0])
        for equations in ([equation], [equation] * 2, [turned], [equation, turned], [turned, equation, equation]):
            self.assertTrue(self.same(equations))

    def test_random_equations(self):
        seen = {True: 0, False: 0}
        for seed in range(4000):
            source = random.Random(seed)
            names = [FREE + k for k in range(source.choice((2, 4, 6)))]
            count = source.choice((1, 1, 2, 3))
            equations = [(random_shape(source, 4, names), random_shape(source, 4, names)) for _ in range(count)]
            seen[self.same(equations)] += 1
        self.assertGreater(min(seen.values()), 1000)

    def hidden(self, source, shape, mapping):
        """A shape that the mapping makes this one: some of its parts are replaced by variables."""
        for key, value in mapping.items():
            if value == shape and source.random() < 0.7:
                return ("v", key)
        if shape[0] == "v":
            return shape
        if shape[0] == "f":
            return fun(self.hidden(source, shape[1], mapping), self.hidden(source, shape[2], mapping))
        return (*shape[:-1], tuple(self.hidden(source, part, mapping) for part in shape[-1]))

    def test_most_general_against_further_unifiers(self):
        larger = 0
        for seed in range(600):
            source = random.Random(seed)
            names = [FREE + k for k in range(4)]
            other = {name: random_shape(source, 3, [FREE + 50, FREE + 51]) for name in names}
            equations = []
            for _ in range(2):
                left = random_shape(source, 4, names)
                equations.append((left, self.hidden(source, apply(other, left), other)))
            self.assertTrue(unifies(other, equations))
            found = unify(equations)
            self.conditions(equations, found)
            self.more_general(found, other)
            larger += found != {}
        self.assertGreater(larger, 100)

    def test_nothing_is_changed(self):
        equations = [(fun(A, B), fun(listed(C), A)), (B, listed(INT))]
        before = copy.deepcopy(equations)
        found = unify(equations)
        self.assertEqual(equations, before)
        mapping = dict(found)
        self.assertTrue(unifies(found, equations))
        self.assertEqual((found, equations), (mapping, before))

    def test_the_result_is_a_dict_of_shapes(self):
        found = unify([(fun(A, B), fun(listed(C), A)), (D, B)])
        self.assertIsInstance(found, dict)
        for key, shape in found.items():
            self.assertIsInstance(key, int)
            self.assertTrue(is_shape(shape, ARITIES))


def doubling(count, first=0):
    """Equations that make the variable number `count` a tree of 2 ** count leaves."""
    return [(free(first + k + 1), pair(free(first + k), free(first + k))) for k in range(count)]


class Large(unittest.TestCase):
    def test_doubling_pairs(self):
        # The variable number 9 gets a shape of size 1023, number 10 one of size 2047.
        found = unify(doubling(9))
        self.assertEqual(size(found[FREE + 9]), 1023)
        with self.assertRaises(TooLarge):
            unify(doubling(10))
        for count in (11, 40, 300):
            with self.assertRaises(TooLarge):
                unify(doubling(count))
            with self.assertRaises(TooLarge):
                unify(doubling(count)[::-1])

    def test_not_unifiable_comes_before_too_large(self):
        for wrong in ((INT, UNIT), (free(0), listed(free(60))), (free(0), pair(INT, free(3)))):
            for equations in ([wrong, *doubling(60)], [*doubling(60), wrong]):
                with self.assertRaises(NotUnifiable):
                    unify(equations)
        equations = doubling(50) + doubling(50, 100) + [(free(50), free(150)), (free(0), INT), (free(100), UNIT)]
        with self.assertRaises(NotUnifiable):
            unify(equations)
        with self.assertRaises(TooLarge):
            unify(equations[:-1])

    def test_large_sides_with_small_shapes_in_the_result(self):
        # Both sides become far too large, but what the variables stand for does not.
        sides = [free(k) for k in range(10)]
        shape = sides[0]
        for _ in range(9):
            shape = pair(shape, shape)
        big = unify([(free(20), shape)])
        self.assertEqual(size(big[FREE + 20]), 1023)
        again = [(pair(free(20), free(20)), pair(shape, shape)), (free(20), shape)]
        self.assertEqual(size(unify(again)[FREE + 20]), 1023)
        self.assertTrue(unifies(unify(again), again))

    def test_the_bound_of_the_size(self):
        for count, right in ((1997, True), (1998, True), (1999, False)):
            row = wide(count, INT)
            equations = [(A, pair(B, INT)), (B, row)]
            if right:
                self.assertEqual(size(unify(equations)[FREE]), count + 2)
            else:
                with self.assertRaises(TooLarge):
                    unify(equations)

    def test_the_bound_of_the_depth(self):
        self.assertEqual(depth(unify([(A, towers(50, B)), (B, towers(49, INT))])[FREE]), 100)
        with self.assertRaises(TooLarge):
            unify([(A, towers(50, B)), (B, towers(50, INT))])
        with self.assertRaises(TooLarge):
            unify([(free(k), listed(free(k + 1))) for k in range(100)])
        self.assertEqual(depth(unify([(free(k), listed(free(k + 1))) for k in range(99)])[FREE]), 100)

    def test_a_shape_that_is_in_no_result(self):
        self.assertEqual(unify([(wide(2000, INT), wide(2000, INT))]), {})
        side = ("t", (wide(1900, INT), A))
        self.assertEqual(unify([(side, ("t", (wide(1900, INT), listed(B))))]), {FREE: listed(B)})

    def test_long_chains(self):
        count = 3000
        found = unify([(free(k), free(k + 1)) for k in range(count)])
        self.assertEqual(len(found), count)
        self.assertEqual(len(set(found.values())), 1)
        with self.assertRaises(TooLarge):
            unify([(free(k), listed(free(k + 1))) for k in range(count)])
        with self.assertRaises(NotUnifiable):
            unify([(free(k), listed(free((k + 1) % count))) for k in range(count)])


class Unifies(unittest.TestCase):
    def test_both_sides_after_the_substitution(self):
        self.assertIs(unifies({}, []), True)
        self.assertIs(unifies({}, [(A, A), (INT, INT)]), True)
        self.assertIs(unifies({}, [(A, B)]), False)
        self.assertIs(unifies({FREE: B}, [(A, B)]), True)
        self.assertIs(unifies({FREE: INT}, [(A, INT), (listed(A), listed(INT))]), True)
        self.assertIs(unifies({FREE: INT}, [(A, INT), (A, UNIT)]), False)
        self.assertIs(unifies({FREE: INT, FREE + 1: INT}, [(fun(A, B), fun(B, A))]), True)
        self.assertIs(unifies({FREE: pair(INT, INT)}, [(A, ("t", (INT, INT, INT)))]), False)
        self.assertIs(unifies({FREE: fun(INT, INT)}, [(A, pair(INT, INT))]), False)
        self.assertIs(unifies({FREE: listed(INT)}, [(A, ("c", 6, (INT,)))]), False)

    def test_the_substitution_is_applied_once(self):
        self.assertIs(unifies({FREE: B, FREE + 1: INT}, [(A, INT)]), False)
        self.assertIs(unifies({FREE: B, FREE + 1: INT}, [(A, ("v", FREE + 2))]), False)
        self.assertIs(unifies({FREE: B, FREE + 1: A}, [(A, B)]), False)
        self.assertIs(unifies({FREE: B, FREE + 1: A}, [(fun(A, B), fun(A, B))]), True)
        self.assertIs(unifies({FREE: listed(A)}, [(A, listed(A))]), False)
        self.assertIs(unifies({FREE: listed(A)}, [(A, A)]), True)

    def test_against_plain_substitution(self):
        for seed in range(1500):
            source = random.Random(seed)
            names = [FREE + k for k in range(3)]
            mapping = {name: random_shape(source, 3, names) for name in names if source.random() < 0.8}
            left = random_shape(source, 4, names)
            right = source.choice((left, random_shape(source, 4, names), apply(mapping, left)))
            self.assertEqual(unifies(mapping, [(left, right)]), substitute(left, mapping) == substitute(right, mapping))

    def test_sides_beyond_the_bounds(self):
        shape = free(0)
        for _ in range(9):
            shape = pair(shape, shape)
        other = substitute(shape, {FREE: free(1)})
        self.assertIs(unifies({FREE: shape, FREE + 1: shape}, [(shape, other)]), True)
        self.assertIs(unifies({FREE: shape, FREE + 1: other}, [(shape, other)]), False)
        tower = INT
        for _ in range(99):
            tower = listed(tower)
        self.assertIs(unifies({FREE: tower}, [(tower, tower), (listed(A), listed(A))]), True)
        deep = A
        for _ in range(99):
            deep = listed(deep)
        self.assertIs(unifies({FREE: tower}, [(deep, deep)]), True)
        self.assertIs(unifies({FREE: tower, FREE + 1: INT}, [(deep, substitute(deep, {FREE: B}))]), False)
