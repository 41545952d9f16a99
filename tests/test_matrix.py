"""Values that fit, rows that are missing, rows that are never chosen: points 5.6 to 5.11."""

import random
import unittest

from plain_samples import BOOL, EXCEPTIONS, LIST, NUMBERS, ONE, TWELVE, columns
from shapewright.matrix import below, example, fits, incompatible, missing
from shapewright.plain import is_pattern

ANY, X, Y = ("any",), ("var", "x"), ("var", "y")
A, B, C = EXCEPTIONS
OPTION = (("None", False), ("Some", True))
NAMES = ["exn A", "exn C", "mod M"]


def pair(first, second):
    return ("tuple", (first, second))


def some(pattern):
    return ("con", OPTION, 1, pattern)


def value_pair(first, second):
    return ("tuple", (first, second))


def is_bare(pattern):
    """Whether a pattern has no variables."""
    if pattern[0] in ("var", "as"):
        return False
    parts = pattern[1] if pattern[0] == "tuple" else pattern[-1:] if pattern[0] in ("con", "packet") else ()
    return all(part is None or is_bare(part) for part in parts)


def agree(first, second):
    """Whether two patterns can belong to one column."""
    first, second = said(first), said(second)
    if first[0] in ("any", "var") or second[0] in ("any", "var"):
        return True
    if first[0] != second[0]:
        return False
    if first[0] == "tuple":
        return len(first[1]) == len(second[1]) and all(map(agree, first[1], second[1]))
    if first[0] == "con" and first[1] != second[1]:
        return False
    if first[0] == "int" or first[1:-1] != second[1:-1] or None in (first[-1], second[-1]):
        return True
    return agree(first[-1], second[-1])


def said(pattern):
    return said(pattern[2]) if pattern[0] == "as" else pattern


ONE_VALUE, TWO_VALUE = ("int", 1), ("int", 2)
UNIT = ("tuple", ())
SOME = ("con", 1, "Some", ONE_VALUE)
PACKET = ("packet", 4, "A", ONE_VALUE)
BARE = ("packet", 5, "B", None)
OTHERS = [("record", ()), ("exn", 4, "A"), ("fun", "x", ("int", 1), None), ("fix", (), 0, None), ("ref", 0)]


class Fits(unittest.TestCase):
    def test_what_fits(self):
        rows = [
            (ANY, ONE_VALUE, []), (X, ONE_VALUE, [("x", ONE_VALUE)]), (("as", "x", ("int", 1)), ONE_VALUE, [("x", ONE_VALUE)]), (("as", "x", ("as", "y", ANY)), UNIT, [("x", UNIT), ("y", UNIT)]), (("int", 1), ONE_VALUE, []), (("int", 1), TWO_VALUE, None),
            (("int", -1), ONE_VALUE, None), (("tuple", ()), UNIT, []), (pair(X, Y), value_pair(ONE_VALUE, UNIT), [("x", ONE_VALUE), ("y", UNIT)]), (pair(X, ANY), ("tuple", (UNIT,) * 3), None), (("tuple", (X, ANY, Y)), value_pair(UNIT, UNIT), None), (pair(X, ANY), UNIT, None),
            (pair(Y, ("as", "x", pair(("var", "b"), ("var", "a")))), value_pair(UNIT, value_pair(ONE_VALUE, TWO_VALUE)), [("y", UNIT), ("x", value_pair(ONE_VALUE, TWO_VALUE)), ("b", ONE_VALUE), ("a", TWO_VALUE)]), (pair(X, ("int", 2)), value_pair(ONE_VALUE, ONE_VALUE), None),
            (some(X), SOME, [("x", ONE_VALUE)]), (some(("int", 2)), SOME, None), (("con", OPTION, 0, None), ("con", 0, "None", None), []), (("con", OPTION, 0, None), SOME, None), (some(ANY), ("con", 0, "None", None), None),
            (some(ANY), ("con", 1, "Other", UNIT), []), (("con", BOOL, 1, None), ("con", 1, "Anything", None), []), (some(ANY), ("con", 1, "Some", None), None), (("con", BOOL, 1, None), SOME, None),
            (("packet", A, X), PACKET, [("x", ONE_VALUE)]), (("packet", A, ("int", 2)), PACKET, None), (("packet", A, None), PACKET, None), (("packet", B, None), BARE, []), (("packet", B, ANY), BARE, None), (("packet", A, ANY), ("packet", 4, "Z", UNIT), []),
            (("packet", C, X), PACKET, None), (("packet", A, ANY), ("packet", 40, "A", UNIT), None), (("as", "x", ("packet", A, Y)), PACKET, [("x", PACKET), ("y", ONE_VALUE)]),
            (("int", 1), SOME, None), (("int", 0), ("con", 0, "None", None), None), (("tuple", ()), ONE_VALUE, None), (some(ANY), PACKET, None), (("packet", A, ANY), SOME, None),
        ]
        for pattern, value, expected in rows:
            self.assertEqual(fits(pattern, value, NUMBERS), expected, (pattern, value))

    def test_values_of_other_kinds_fit_what_says_nothing(self):
        for value in OTHERS:
            self.assertEqual(fits(ANY, value, NUMBERS), [])
            self.assertEqual(fits(("as", "y", X), value, NUMBERS), [("y", value), ("x", value)])
            self.assertEqual(fits(pair(X, ANY), value_pair(value, UNIT), NUMBERS), [("x", value)])
            for pattern in (("int", 0), ("tuple", ()), some(ANY), ("con", BOOL, 0, None), ("packet", A, ANY), ("packet", B, None)):
                self.assertIsNone(fits(pattern, value, NUMBERS))

    def test_numbers(self):
        self.assertIsNone(fits(("packet", A, X), PACKET, []))
        self.assertIsNone(fits(("packet", A, X), PACKET, [(B, 4)]))
        self.assertEqual(fits(("packet", A, X), PACKET, [(B, 4), (A, 4)]), [("x", ONE_VALUE)])
        self.assertIsNone(fits(("packet", A, X), PACKET, [(B, 4), (A, 5)]))
        self.assertEqual(fits(("packet", ("field", "exn B", ("var", "mod M")), None), BARE, NUMBERS), [])
        self.assertIsNone(fits(("packet", ("field", "exn C", ("var", "mod M")), None), BARE, NUMBERS))


# Pairs of patterns: whether they are incompatible, whether the first is below the second, and the other way round.
RELATIONS = [
    (ANY, ANY, False, True, True), (X, ("int", 1), False, False, True), (("int", 1), ("int", 1), False, True, True), (("int", 1), ("int", 2), True, False, False), (("as", "x", ("int", 1)), ("int", 1), False, True, True), (("as", "x", Y), ("int", 1), False, False, True),
    (("tuple", ()), ("tuple", ()), False, True, True), (("tuple", ()), ANY, False, True, False), (pair(ANY, X), pair(Y, ANY), False, True, True), (pair(("int", 1), ANY), pair(ANY, ("int", 2)), False, False, False), (pair(("int", 1), ANY), pair(("int", 2), ANY), True, False, False),
    (pair(("int", 1), ("int", 2)), pair(ANY, ("int", 2)), False, True, False), (("con", BOOL, 0, None), ("con", BOOL, 0, None), False, True, True), (("con", BOOL, 0, None), ("con", BOOL, 1, None), True, False, False), (some(ANY), some(X), False, True, True),
    (some(("int", 1)), some(ANY), False, True, False), (some(("int", 1)), some(("int", 2)), True, False, False), (some(ANY), ("con", OPTION, 0, None), True, False, False), (("packet", A, ANY), ("packet", A, X), False, True, True), (("packet", A, ("int", 1)), ("packet", A, ANY), False, True, False),
    (("packet", A, ANY), ("packet", C, ANY), True, False, False), (("packet", A, ("int", 1)), ("packet", A, ("int", 2)), True, False, False), (("packet", A, ANY), ("packet", A, None), True, False, False), (("packet", B, None), ("packet", B, None), False, True, True),
    (("packet", B, None), ANY, False, True, False), (pair(ANY, ("con", BOOL, 1, None)), X, False, True, False),
    # These do not agree.
    (("int", 1), ("tuple", ()), True, False, False), (("int", 1), ("con", BOOL, 1, None), True, False, False), (("int", 1), ("packet", A, ANY), True, False, False), (("tuple", ()), ("con", BOOL, 0, None), True, False, False), (("tuple", ()), pair(ANY, ANY), True, False, False),
    (pair(ANY, ANY), ("tuple", (ANY, ANY, ANY)), True, False, False), (("con", BOOL, 0, None), ("con", OPTION, 0, None), True, False, False), (some(ANY), ("packet", A, ANY), True, False, False), (("con", OPTION, 0, None), ("con", (*OPTION, ("More", True)), 0, None), True, False, False),
    (pair(("int", 1), ("int", 1)), pair(("int", 1), ("tuple", ())), True, False, False), (some(("int", 1)), some(("tuple", ())), True, False, False), (("packet", A, ("int", 1)), ("packet", A, ("tuple", ())), True, False, False),
]


class Relations(unittest.TestCase):
    def test_incompatible_and_below(self):
        for first, second, apart, under, over in RELATIONS:
            self.assertIs(incompatible(first, second), apart, (first, second))
            self.assertIs(incompatible(second, first), apart, (second, first))
            self.assertIs(below(first, second), under, (first, second))
            self.assertIs(below(second, first), over, (second, first))

    def test_values_and_relations(self):
        for column in columns(5, 60, 2):
            patterns = [column.pattern([]) for _ in range(8)]
            values = column.values(60)
            for first in patterns:
                fitting = [value for value in values if fits(first, value, NUMBERS) is not None]
                for second in patterns:
                    both = [value for value in fitting if fits(second, value, NUMBERS) is not None]
                    self.assertFalse(incompatible(first, second) and both)
                    if below(first, second):
                        self.assertEqual(both, fitting)
                        self.assertFalse(incompatible(first, second))


class Search(unittest.TestCase):
    def check_missing(self, rows):
        found = missing(rows)
        if found is not None:
            self.assertTrue(is_bare(found), found)
            self.assertTrue(is_pattern(found, [*NAMES, *expressions_in(found)]), found)
            self.assertTrue(all(agree(found, row) and incompatible(found, row) for row in rows), (found, rows))
        return found

    def check_example(self, rows, k):
        found = example(rows, k)
        if found is not None:
            self.assertTrue(is_bare(found), found)
            self.assertTrue(is_pattern(found, [*NAMES, *expressions_in(found)]), found)
            self.assertTrue(below(found, rows[k]), (found, rows))
            self.assertTrue(all(agree(found, row) for row in rows), (found, rows))
            self.assertTrue(all(incompatible(found, row) for row in rows[:k]), (found, rows))
        return found

    def test_nothing_is_missing(self):
        true, false, none = ("con", BOOL, 1, None), ("con", BOOL, 0, None), ("con", OPTION, 0, None)
        for rows in (
            [ANY], [X], [("as", "x", ANY)], [("tuple", ())], [pair(ANY, X)], [true, false], [false, true], [none, some(ANY)], [("con", ONE, 0, ANY)], [pair(true, ANY), pair(false, ANY)], [pair(true, true), pair(ANY, false), pair(false, ANY)],
            [none, some(true), some(false)], [("int", 1), ANY], [("packet", A, ANY), X], [("con", TWELVE, k, ANY if TWELVE[k][1] else None) for k in range(12)], [some(none), some(some(ANY)), none], [("con", ONE, 0, ("con", ONE, 0, X))],
            [pair(none, ANY), pair(ANY, none), pair(some(ANY), some(ANY))], [("con", LIST, 0, None), ("con", LIST, 1, pair(ANY, ("con", LIST, 0, None))), ("con", LIST, 1, pair(ANY, ("con", LIST, 1, ANY)))],
        ):
            self.assertIsNone(missing(rows), rows)

    def test_something_is_missing(self):
        true, none = ("con", BOOL, 1, None), ("con", OPTION, 0, None)
        for rows in (
            [true], [none], [some(ANY)], [("int", 0)], [("int", n) for n in range(12)], [("int", n) for n in range(-6, 6)], [("packet", A, ANY)], [("packet", e, ANY if e != B else None) for e in EXCEPTIONS], [pair(true, ANY)], [pair(true, true), pair(ANY, ("con", BOOL, 0, None))],
            [none, some(true)], [("con", TWELVE, k, ANY if TWELVE[k][1] else None) for k in range(11)], [("con", ONE, 0, ("int", 3))], [("con", ONE, 0, ("packet", A, ("tuple", ())))], [pair(X, ("int", 3)), pair(("int", 3), Y)],
            [("packet", ("var", "other 0"), None), ("packet", ("var", "other 1"), None)], [("packet", ("var", "other 1"), None)], [("packet", ("var", "other 2"), None), ("packet", ("var", "other 0"), None)], [("packet", A, ("int", 1))], [("as", "x", true)], [("tuple", (true, ANY, ANY)), ("tuple", (ANY, true, ANY)), ("tuple", (ANY, ANY, true))],
        ):
            self.assertIsNotNone(self.check_missing(rows), rows)
        self.assertEqual(missing([]), ("any",))

    def test_rows_that_are_never_chosen(self):
        true, false, none = ("con", BOOL, 1, None), ("con", BOOL, 0, None), ("con", OPTION, 0, None)
        for rows, k in (
            ([ANY, ("int", 4)], 1), ([("int", 4), ("int", 4)], 1), ([true, false, ANY], 2), ([pair(true, ANY), pair(ANY, true), pair(true, true)], 2), ([none, some(ANY), some(("int", 1))], 2), ([X, Y], 1), ([("tuple", ()), ANY], 1),
            ([("packet", A, ANY), ("packet", A, ("int", 1))], 1), ([pair(true, ANY), pair(false, ANY), pair(ANY, ("int", 3))], 2), ([("con", TWELVE, k, ANY if TWELVE[k][1] else None) for k in range(12)] + [ANY], 12), ([some(true), some(false), none, some(X)], 3),
        ):
            self.assertIsNone(example(rows, k), rows)

    def test_rows_that_are_chosen(self):
        true, none = ("con", BOOL, 1, None), ("con", OPTION, 0, None)
        for rows, k in (
            ([ANY, ANY], 0), ([("int", 4), ANY], 1), ([("int", 4), X, ANY], 0), ([true, ANY], 1), ([none, some(("int", 1)), some(ANY)], 2), ([pair(true, ANY), pair(ANY, true)], 1), ([("packet", A, ANY), ("packet", C, ANY)], 1), ([("packet", A, None), ("packet", A, ANY)], 1),
            ([("packet", A, ANY), ("packet", C, ANY), ANY], 2), ([("con", TWELVE, k, ANY if TWELVE[k][1] else None) for k in range(12)], 11), ([("con", ONE, 0, ("int", 1)), ("con", ONE, 0, ("as", "x", ("int", 2)))], 1), ([pair(X, ("int", 3)), pair(("int", 3), Y)], 1),
        ):
            self.assertIsNotNone(self.check_example(rows, k), rows)
        self.assertIsNone(example([ANY, true, true], 2))

    def test_many_rows_against_values(self):
        chance = random.Random(7)
        for column in columns(11, 500, 2) + columns(12, 250, 3):
            rows = [column.pattern([]) for _ in range(chance.randint(1, 12))]
            values = column.values(400)
            chosen = [next((k for k, row in enumerate(rows) if fits(row, value, NUMBERS) is not None), None) for value in values]
            found = self.check_missing(rows)
            if len(values) < 400:
                self.assertEqual(found is None, None not in chosen, rows)
            elif found is None:
                self.assertNotIn(None, chosen)
            for k in range(len(rows)):
                found = self.check_example(rows, k)
                if len(values) < 400:
                    self.assertEqual(found is None, k not in chosen, (rows, k))
                elif found is None:
                    self.assertNotIn(k, chosen)

    def test_integers_and_packets_in_all_rows_leave_something(self):
        chance = random.Random(8)
        for column in columns(13, 120, 2):
            rows = [column.pattern([]) for _ in range(chance.randint(1, 8))]
            for inner in (("int", 7), ("packet", A, ANY)):
                self.assertIsNotNone(self.check_missing([pair(row, inner) for row in rows]))

    def test_the_search_is_not_long(self):
        true, false = ("con", BOOL, 1, None), ("con", BOOL, 0, None)

        def row(bits):
            return ("tuple", tuple(("tuple", tuple(bits[5 * k:5 * k + 5])) for k in range(6)))

        wide = [row([ANY] * 3 + [true if (k + j) % 3 else false for j in range(27)]) for k in range(4)]
        narrow = [row([true if k >> j & 1 else false for j in range(3)] + [ANY] * 27) for k in range(8)]
        self.assertIsNone(missing(wide + narrow))
        self.assertIsNotNone(self.check_missing(wide + narrow[1:]))
        diagonal = [row([ANY] * k + [true] + [ANY] * (29 - k)) for k in range(12)]
        self.assertIsNotNone(self.check_missing(diagonal))


def expressions_in(pattern):
    """The variables in the packet patterns of a pattern."""
    if pattern[0] == "packet":
        expression = pattern[1]
        while expression[0] == "field":
            expression = expression[2]
        return [expression[1], *(expressions_in(pattern[2]) if pattern[2] else [])]
    if pattern[0] == "con":
        return expressions_in(pattern[3]) if pattern[3] else []
    return [name for part in pattern[1] for name in expressions_in(part)] if pattern[0] == "tuple" else []


if __name__ == "__main__":
    unittest.main()
