"""Values: equality, operations, the written form: points 7.2 to 7.5 and 7.13."""

import copy
import unittest

from shapewright.values import equal, operate, show, wrap

GREATEST, LEAST, RANGE = 2147483647, -2147483648, 4294967296
UNIT, FALSE, TRUE = ("tuple", ()), ("con", 0, "False", None), ("con", 1, "True", None)
ENDS = (0, 1, -1, 2, -2, 7, -7, 10, GREATEST, LEAST, GREATEST - 1, LEAST + 1, 65536, -65537)


def number(n):
    return ("int", n)


def some(value):
    return ("con", 1, "Some", value)


NONE = ("con", 0, "None", None)
KINDS = [
    number(1), UNIT, ("tuple", (number(1), number(2))), ("record", (("a", number(1)),)), NONE, some(number(1)), ("packet", 4, "E", None), ("packet", 4, "E", number(1)),
    ("exn", 4, "E"), ("fun", "x", ("var", "x"), None), ("fix", (("f", "x", ("var", "x")),), 0, None), ("ref", 0),
]


def chain(count, last):
    value = last
    for _ in range(count):
        value = some(("tuple", (number(1), value)))
    return value


class Wrapping(unittest.TestCase):
    def test_wrap(self):
        rows = [(0, 0), (GREATEST, GREATEST), (LEAST, LEAST), (GREATEST + 1, LEAST), (LEAST - 1, GREATEST), (RANGE, 0), (-RANGE, 0), (RANGE + 5, 5), (3 * RANGE - 2, -2), (GREATEST * GREATEST, 1), (LEAST * LEAST, 0), (GREATEST * LEAST, LEAST), (-LEAST, LEAST)]
        for n, expected in rows:
            self.assertEqual(wrap(n), expected)
        for n in range(-3 * RANGE, 3 * RANGE, 777777777):
            self.assertTrue(LEAST <= wrap(n) <= GREATEST)
            self.assertEqual((wrap(n) - n) % RANGE, 0)


class Equality(unittest.TestCase):
    def check(self, first, second, expected):
        self.assertIs(equal(first, second), expected, (first, second))
        self.assertIs(equal(second, first), expected, (second, first))

    def test_each_pair_of_kinds(self):
        for k, first in enumerate(KINDS):
            for m, second in enumerate(KINDS):
                if first[0] != second[0]:
                    self.check(first, second, None)
        for value in KINDS:
            comparable = value[0] in ("int", "tuple", "con", "ref")
            self.check(value, value, True if comparable else None)

    def test_values(self):
        function = KINDS[9]
        rows = [
            (number(1), number(2), False), (number(-5), number(-5), True), (("ref", 1), ("ref", 1), True), (("ref", 1), ("ref", 2), False), (NONE, some(number(1)), False), (NONE, some(function), False), (some(number(1)), some(number(1)), True), (some(number(1)), some(number(2)), False),
            (some(function), some(function), None), (some(number(1)), some(UNIT), None), (NONE, ("con", 0, "Other", None), True), (some(number(1)), ("con", 1, "Other", number(1)), True), (NONE, ("con", 0, "None", number(1)), None), (UNIT, UNIT, True),
            (UNIT, ("tuple", (number(1), number(1))), None), (("tuple", (number(1), number(2))), ("tuple", (number(1), number(2), number(3))), None),
        ]
        for first, second, expected in rows:
            self.check(first, second, expected)

    def test_the_first_result_that_is_not_true(self):
        function = KINDS[9]

        def three(*items):
            return ("tuple", items)

        self.check(three(number(1), number(2), function), three(number(1), number(3), function), False)
        self.check(three(number(1), function, number(2)), three(number(1), function, number(3)), None)
        self.check(three(number(1), three(number(4), number(5)), function), three(number(1), three(number(4), number(6)), function), False)
        self.check(three(some(function), number(1)), three(some(function), number(2)), None)
        self.check(three(NONE, function), three(some(function), function), False)
        self.check(three(three(number(1), number(2)), number(3)), three(three(number(1), number(2)), number(3)), True)
        self.check(three(number(1), number(2), number(3)), three(number(1), number(2), number(4)), False)

    def test_deep_values(self):
        self.check(chain(20000, number(1)), chain(20000, number(1)), True)
        self.check(chain(20000, number(1)), chain(20000, number(2)), False)
        self.check(chain(20000, KINDS[9]), chain(20000, KINDS[9]), None)


class Operations(unittest.TestCase):
    def give(self, name, *operands, store=()):
        operands = list(operands)
        before = copy.deepcopy((operands, store))
        word, value, after, printed = operate(name, operands, store)
        self.assertEqual((operands, store), before)
        self.assertEqual(word, "give")
        if name not in ("ref", "assign"):
            self.assertEqual(after, store)
        if name != "print":
            self.assertEqual(printed, ())
        return value

    def test_arithmetic(self):
        for a in ENDS:
            self.assertEqual(self.give("neg", number(a)), number(wrap(-a)))
            for b in ENDS:
                self.assertEqual(self.give("add", number(a), number(b)), number(wrap(a + b)))
                self.assertEqual(self.give("sub", number(a), number(b)), number(wrap(a - b)))
                self.assertEqual(self.give("mul", number(a), number(b)), number(wrap(a * b)))
                self.assertEqual(self.give("less", number(a), number(b)), TRUE if a < b else FALSE)
                self.assertEqual(self.give("leq", number(a), number(b)), TRUE if a <= b else FALSE)
                self.assertEqual(self.give("equal", number(a), number(b)), TRUE if a == b else FALSE)

    def test_wrapped_results(self):
        rows = [("add", GREATEST, 1, LEAST), ("sub", LEAST, 1, GREATEST), ("mul", 65536, 65536, 0), ("mul", LEAST, -1, LEAST), ("div", LEAST, -1, LEAST), ("mod", LEAST, -1, 0)]
        for name, a, b, expected in rows:
            self.assertEqual(self.give(name, number(a), number(b)), number(expected))
        self.assertEqual(self.give("neg", number(LEAST)), number(LEAST))

    def test_division(self):
        rows = [(7, 2, 3, 1), (-7, 2, -4, 1), (7, -2, -4, -1), (-7, -2, 3, -1), (6, 3, 2, 0), (-6, 3, -2, 0), (0, 5, 0, 0), (0, -5, 0, 0), (1, 10, 0, 1), (-1, 10, -1, 9), (1, -10, -1, -9), (GREATEST, LEAST, -1, -1), (LEAST, GREATEST, -2, GREATEST - 1)]
        for a, b, quotient, remainder in rows:
            self.assertEqual(self.give("div", number(a), number(b)), number(quotient))
            self.assertEqual(self.give("mod", number(a), number(b)), number(remainder))
        for a in ENDS:
            for name in ("div", "mod"):
                self.assertEqual(operate(name, [number(a), number(0)], (UNIT,)), ("throw", ("packet", 2, "Div", None), (UNIT,), ()))

    def test_equal(self):
        self.assertEqual(self.give("equal", UNIT, UNIT), TRUE)
        self.assertEqual(self.give("equal", NONE, some(UNIT)), FALSE)
        self.assertEqual(self.give("equal", ("ref", 0), ("ref", 1), store=(UNIT, UNIT)), FALSE)
        for value in KINDS[6:11]:
            self.assertEqual(operate("equal", [value, value], ()), ("throw", ("packet", 3, "Equality", None), (), ()))
        self.assertEqual(operate("equal", [number(1), UNIT], (UNIT,)), ("throw", ("packet", 3, "Equality", None), (UNIT,), ()))

    def test_references(self):
        store = (number(1), UNIT)
        for value in KINDS:
            self.assertEqual(operate("ref", [value], store), ("give", ("ref", 2), (*store, value), ()))
            self.assertEqual(operate("assign", [("ref", 0), value], store), ("give", UNIT, (value, UNIT), ()))
            self.assertEqual(operate("assign", [("ref", 1), value], store), ("give", UNIT, (number(1), value), ()))
        self.assertEqual(operate("ref", [UNIT], ()), ("give", ("ref", 0), (UNIT,), ()))
        self.assertEqual(operate("fetch", [("ref", 0)], store), ("give", number(1), store, ()))
        self.assertEqual(operate("fetch", [("ref", 1)], store), ("give", UNIT, store, ()))
        self.assertEqual(store, (number(1), UNIT))

    def test_print(self):
        self.assertEqual(operate("print", [number(-4)], (UNIT,)), ("give", UNIT, (UNIT,), (-4,)))

    def test_operands_of_another_kind(self):
        store = (UNIT,)
        for name in ("add", "sub", "mul", "div", "mod", "less", "leq"):
            for value in KINDS[1:]:
                for operands in ([value, number(1)], [number(1), value], [value, number(0)], [value, value]):
                    self.assertEqual(operate(name, operands, store), ("stuck", "operand", store, ()), (name, operands))
        for name in ("neg", "print"):
            for value in KINDS[1:]:
                self.assertEqual(operate(name, [value], store), ("stuck", "operand", store, ()))
        for value in KINDS[:-1]:
            self.assertEqual(operate("fetch", [value], store), ("stuck", "operand", store, ()))
            self.assertEqual(operate("assign", [value, number(1)], store), ("stuck", "operand", store, ()))


class Written(unittest.TestCase):
    def test_every_kind(self):
        pair = ("tuple", (number(1), UNIT))
        rows = [
            (number(0), "0"), (number(12), "12"), (number(-3), "~3"), (number(LEAST), "~2147483648"), (UNIT, "()"), (pair, "(1, ())"), (("tuple", (pair, pair, number(2))), "((1, ()), (1, ()), 2)"), (NONE, "None"), (some(number(-3)), "Some ~3"),
            (some(NONE), "Some None"), (some(some(number(1))), "Some (Some 1)"), (some(some(NONE)), "Some (Some None)"), (some(pair), "Some (1, ())"), (some(("packet", 4, "E", None)), "Some E"), (some(("packet", 4, "E", UNIT)), "Some (E ())"), (some(("ref", 0)), "Some (ref 5)"),
            (("packet", 4, "E", None), "E"), (("packet", 4, "E", number(1)), "E 1"), (("packet", 4, "E", ("packet", 5, "F", UNIT)), "E (F ())"), (("packet", 4, "E", some(UNIT)), "E (Some ())"), (("packet", 4, "E", ("ref", 0)), "E (ref 5)"), (("exn", 4, "E"), "E"), (some(("exn", 4, "E")), "Some E"),
            (KINDS[9], "fn"), (KINDS[10], "fn"), (some(KINDS[9]), "Some fn"), (("ref", 0), "ref 5"), (("ref", 1), "ref (ref 5)"), (("ref", 2), "ref (Some 1)"), (("ref", 3), "ref None"), (("ref", 4), "ref (1, ())"), (("record", ()), "{}"), (("record", (("a", number(1)),)), "{a = 1}"),
            (("record", (("val b", number(1)), ("mod A", ("record", ())), ("c", some(number(2))))), "{val b = 1, mod A = {}, c = Some 2}"), (some(("record", (("a", UNIT),))), "Some {a = ()}"), (("tuple", (some(number(1)), ("ref", 0))), "(Some 1, ref 5)"), (("record", (("r", ("ref", 0)),)), "{r = ref 5}"),
        ]
        store = (number(5), ("ref", 0), some(number(1)), NONE, pair)
        for value, text in rows:
            self.assertEqual(show(value, store, 200), text)

    def test_limits(self):
        value = ("tuple", (some(number(1)), ("ref", 0), ("record", (("a", number(2)), ("b", UNIT)))))
        store = (some(NONE),)
        texts = [
            "(.., .., ..)", "(Some .., .., ..)", "(Some 1, .., ..)", "(Some 1, ref .., ..)", "(Some 1, ref (Some ..), ..)", "(Some 1, ref (Some None), ..)", "(Some 1, ref (Some None), {a = .., b = ..})", "(Some 1, ref (Some None), {a = 2, b = ..})",
            "(Some 1, ref (Some None), {a = 2, b = ()})", "(Some 1, ref (Some None), {a = 2, b = ()})",
        ]
        for limit, text in enumerate(texts, start=1):
            self.assertEqual(show(value, store, limit), text)
        self.assertEqual(show(some(some(number(1))), (), 1), "Some ..")
        self.assertEqual(show(some(some(number(1))), (), 2), "Some (Some ..)")
        self.assertEqual(show(some(("ref", 0)), (UNIT,), 1), "Some ..")
        self.assertEqual(show(number(7), (), 1), "7")
        self.assertEqual(show(UNIT, (), 1), "()")

    def test_references_that_lead_back_to_themselves(self):
        store = (("ref", 0), ("tuple", (("ref", 1), number(3))))
        self.assertEqual(show(("ref", 0), store, 1), "ref ..")
        self.assertEqual(show(("ref", 0), store, 3), "ref (ref (ref ..))")
        self.assertEqual(show(("ref", 1), store, 4), "ref (ref (.., ..), ..)")
        self.assertEqual(show(("ref", 0), store, 200).count("ref"), 200)

    def test_deep_values(self):
        text = show(chain(20000, UNIT), (), 200)
        self.assertEqual(text.count("Some"), 67)
        self.assertEqual(text.count("1"), 66)


if __name__ == "__main__":
    unittest.main()
