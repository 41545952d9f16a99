"""States in which the machine is stuck: point 7.12."""

import unittest

from shapewright.moves import has_ended
from shapewright.steps import end, run, step
from shapewright.stuck import match_row, stuck_word

BOOL = (("False", False), ("True", False))
OPTION = (("None", False), ("Some", True))
ONE, TWO, UNIT = ("int", 1), ("int", 2), ("tuple", ())
ANY, X = ("any",), ("var", "x")
FUN = ("fn", "x", X)
NONE = ("con", OPTION, 0, None)
RECORD = ("record", (("a", ONE),))
EXN = ("exn", 4, "E")
ENV = ("e", EXN, ("n", ONE, ("m", ("record", (("exn D", ("exn", 5, "D")), ("k", TWO), ("mod N", ("record", (("exn C", ("exn", 6, "C")),))))), None)))
E, D, C = ("var", "e"), ("field", "exn D", ("var", "m")), ("field", "exn C", ("field", "mod N", ("var", "m")))


def some(value):
    return ("con", 1, "Some", value)


def one_row(pattern, value=ONE):
    return ("match", value, ((pattern, ONE),), "Match")


STUCK = {
    "variable": [X, ("let", "y", ONE, X), ("rec", (("f", "x", X),), X), one_row(("packet", X, None)), one_row(("packet", ("field", "a", X), None)), ("match", ONE, ((("int", 2), ONE), (("packet", X, None), ONE)), "Match")],
    "call": [("app", ONE, ONE), ("app", UNIT, ONE), ("app", RECORD, ONE), ("app", NONE, ONE), ("app", ("fixed", 0), ONE), ("app", ("packet", ("fixed", 0), None), ONE), ("app", ("prim", "ref", (ONE,)), ONE), ("app", ("app", FUN, ONE), ONE)],
    "field": [("field", "a", ONE), ("field", "b", RECORD), ("field", "a", ("record", ())), ("field", "a", UNIT), ("field", "a", FUN), ("field", "a", ("field", "a", RECORD)), ("field", "A", RECORD)],
    "match": [
        one_row(("int", 1), UNIT), one_row(("int", 1), NONE), one_row(("tuple", ())), one_row(("tuple", (ANY, ANY)), UNIT), one_row(("tuple", (ANY, ANY)), ("tuple", (ONE, ONE, ONE))), one_row(("con", OPTION, 0, None)), one_row(("con", (("Other", False),), 0, None), NONE), one_row(("con", BOOL, 0, None), NONE),
        one_row(("con", (("None", True),), 0, ANY), NONE), one_row(("con", (("A", False), ("Some", False)), 1, None), ("con", OPTION, 1, ONE)), ("let", "e", ("fixed", 0), one_row(("packet", ("var", "e"), None))), ("let", "e", ONE, one_row(("packet", ("var", "e"), None), ("packet", ("fixed", 0), None))),
        ("let", "e", ("fixed", 0), one_row(("packet", ("var", "e"), ANY), ("packet", ("fixed", 0), None))), ("let", "e", ("fixed", 0), one_row(("packet", ("var", "e"), None), ("packet", ("fixed", 0), ONE))), ("let", "e", RECORD, one_row(("packet", ("field", "b", ("var", "e")), None))), ("let", "e", RECORD, one_row(("packet", ("field", "a", ("var", "e")), None))),
        ("let", "e", ONE, one_row(("packet", ("field", "a", ("var", "e")), None))), one_row(("as", "x", ("int", 1)), UNIT), one_row(("con", OPTION, 1, ("int", 1)), ("con", OPTION, 1, UNIT)), ("handle", ("raise", ("packet", ("fixed", 0), None)), ((("int", 1), ONE),)), ("handle", ("raise", ("packet", ("fixed", 0), None)), ((("tuple", ()), ONE),)),
        ("match", ONE, ((("int", 2), ONE), (("tuple", ()), ONE)), "Match"), ("let", "e", ONE, ("handle", ("raise", ("packet", ("fixed", 0), None)), ((("packet", ("var", "e"), None), ONE),))),
    ],
    "raise": [("raise", ONE), ("raise", UNIT), ("raise", ("fixed", 0)), ("raise", FUN), ("raise", NONE)],
    "packet": [("packet", ONE, None), ("packet", ONE, ONE), ("packet", ("packet", ("fixed", 0), None), None), ("packet", FUN, X), ("packet", UNIT, None)],
    "operand": [("prim", "add", (ONE, UNIT)), ("prim", "add", (UNIT, ONE)), ("prim", "div", (UNIT, ("int", 0))), ("prim", "neg", (FUN,)), ("prim", "less", (NONE, ONE)), ("prim", "fetch", (ONE,)), ("prim", "assign", (ONE, ONE)), ("prim", "print", (UNIT,)), ("prim", "mod", (ONE, NONE))],
}


def around(tree):
    """Programs in which the tree is evaluated inside a let, a call, a record and the like."""
    return [
        tree, ("let", "q", tree, ONE), ("let", "q", ONE, tree), ("app", ("fn", "q", tree), ONE), ("app", FUN, tree), ("app", tree, ONE), ("record", (("a", ONE), ("b", tree))), ("tuple", (ONE, tree)), ("handle", tree, ((ANY, ONE),)), ("con", OPTION, 1, tree),
        ("rec", (("h", "q", tree),), ("app", ("var", "h"), ONE)), ("match", tree, ((ANY, ONE),), "Bind"), ("match", ONE, ((ANY, tree),), "Bind"), ("handle", ("raise", ("packet", ("fixed", 0), None)), ((ANY, tree),)), ("prim", "print", (tree,)), ("field", "a", tree), ("raise", tree), ("packet", ("fixed", 0), tree),
    ]


class Words(unittest.TestCase):
    def test_each_word(self):
        for word, trees in STUCK.items():
            for tree in trees:
                for whole in around(tree):
                    last, state, steps = run(whole, 1000)
                    self.assertEqual(last, ("stuck", word), whole)
                    self.assertEqual(stuck_word(state), word)
                    self.assertEqual(step(state), state)
                    self.assertEqual(end(state), ("stuck", word))

    def test_states_that_are_not_stuck(self):
        for state in (("eval", ONE, None, None, (), 4, ()), ("back", ONE, None, None, (), 4, ()), ("throw", ("packet", 0, "Match", None), None, None, (), 4, ()), ("back", ONE, None, (("let", "x", X, None), None), (), 4, ()), ("throw", ("packet", 0, "Match", None), None, (("raise",), None), (), 4, ())):
            self.assertIsNone(stuck_word(state))
            self.assertIs(has_ended(state), state[3] is None and state[0] != "eval")

    def test_values_of_other_kinds_where_nothing_is_said(self):
        for tree in (one_row(ANY, FUN), one_row(("var", "x"), ("fixed", 0)), ("match", FUN, ((("as", "x", ANY), ("app", X, ONE)),), "Match"), one_row(ANY, RECORD), one_row(("tuple", (ANY, ("var", "x"))), ("tuple", (FUN, RECORD)))):
            self.assertEqual(run(tree, 100)[0], ("value", ONE))

    def test_operands_are_evaluated_first(self):
        self.assertEqual(run(("prim", "add", (UNIT, X)), 100)[0], ("stuck", "variable"))
        self.assertEqual(run(("app", ONE, X), 100)[0], ("stuck", "variable"))
        self.assertEqual(run(("packet", ONE, X), 100)[0], ("stuck", "packet"))
        self.assertEqual(run(("tuple", (("field", "a", ONE), X)), 100)[0], ("stuck", "field"))


class Rows(unittest.TestCase):
    def check(self, pattern, value, expected):
        self.assertEqual(match_row(pattern, value, ENV), expected, (pattern, value))

    def test_values_that_fit(self):
        packet = ("packet", 4, "E", ONE)
        rows = [
            (ANY, ONE, []), (X, EXN, [("x", EXN)]), (("as", "x", ("int", 1)), ONE, [("x", ONE)]), (("tuple", ()), UNIT, []), (("tuple", (X, ("as", "y", ("var", "z")))), ("tuple", (ONE, TWO)), [("x", ONE), ("y", TWO), ("z", TWO)]), (("con", OPTION, 1, X), some(TWO), [("x", TWO)]),
            (("con", OPTION, 0, None), ("con", 0, "None", None), []), (("packet", E, X), packet, [("x", ONE)]), (("packet", D, None), ("packet", 5, "D", None), []), (("packet", C, X), ("packet", 6, "Another", TWO), [("x", TWO)]),
        ]
        for row in rows:
            self.check(*row)

    def test_values_that_do_not_fit(self):
        packet = ("packet", 4, "E", ONE)
        for pattern, value in ((("int", 1), TWO), (("con", OPTION, 0, None), some(ONE)), (("con", OPTION, 1, ANY), ("con", 0, "Anything", None)), (("packet", D, None), packet), (("packet", C, ANY), ("packet", 5, "D", None)), (("tuple", (("int", 1), ANY)), ("tuple", (TWO, ONE)))):
            self.check(pattern, value, None)

    def test_conflicts(self):
        packet = ("packet", 4, "E", ONE)
        rows = [
            (("int", 1), UNIT, "match"), (("int", 1), EXN, "match"), (("tuple", ()), ONE, "match"), (("tuple", (ANY, ANY)), UNIT, "match"), (("con", OPTION, 0, None), ONE, "match"), (("con", OPTION, 1, ANY), ("con", 1, "Other", ONE), "match"), (("con", OPTION, 1, ANY), ("con", 1, "Some", None), "match"),
            (("con", OPTION, 0, None), ("con", 0, "None", ONE), "match"), (("packet", E, ANY), ONE, "match"), (("packet", E, ANY), EXN, "match"), (("packet", E, None), packet, "match"), (("packet", E, ANY), ("packet", 4, "E", None), "match"), (("packet", ("var", "n"), ANY), packet, "match"),
            (("packet", ("field", "k", ("var", "m")), ANY), packet, "match"), (("packet", ("field", "none", ("var", "m")), ANY), packet, "match"), (("packet", ("field", "k", ("var", "n")), ANY), packet, "match"), (("packet", ("field", "k", ("field", "k", ("var", "m"))), ANY), packet, "match"),
            (("packet", X, ANY), packet, "variable"), (("packet", ("field", "k", X), ANY), packet, "variable"),
        ]
        for row in rows:
            self.check(*row)

    def test_the_expression_is_looked_at_before_the_value(self):
        self.check(("packet", X, ANY), ONE, "variable")
        self.check(("packet", ("var", "n"), ANY), ONE, "match")
        self.check(("packet", ("var", "x"), None), ("packet", 4, "E", ONE), "variable")

    def test_the_first_conflict_counts(self):
        def two(first, second):
            return ("tuple", (first, second))

        self.check(two(("int", 1), ("packet", X, None)), two(UNIT, ONE), "match")
        self.check(two(("packet", X, None), ("int", 1)), two(ONE, UNIT), "variable")
        self.check(two(("int", 1), ("packet", X, None)), two(TWO, ONE), None)
        self.check(two(two(("int", 1), ("int", 1)), ("packet", X, None)), two(two(ONE, TWO), ONE), None)
        self.check(two(("int", 1), ("tuple", ())), two(TWO, ONE), None)
        self.check(two(("con", OPTION, 1, ("int", 1)), ("tuple", ())), two(("con", 0, "Anything", None), ONE), None)
        self.check(("packet", E, ("tuple", ())), ("packet", 5, "D", ONE), None)
        self.check(two(X, ("int", 1)), two(ONE, TWO), None)

    def test_rows_are_tried_in_order(self):
        rows = ((("int", 2), ONE), (("int", 1), TWO), (("tuple", ()), ONE))
        self.assertEqual(run(("match", ONE, rows, "Match"), 100)[0], ("value", TWO))
        self.assertEqual(run(("match", ("int", 3), rows, "Match"), 100)[0], ("stuck", "match"))
        self.assertEqual(run(("match", ONE, ((("packet", X, None), ONE), (ANY, TWO)), "Match"), 100)[0], ("stuck", "variable"))
        self.assertEqual(run(("match", ONE, ((ANY, TWO), (("packet", X, None), ONE)), "Match"), 100)[0], ("value", TWO))


if __name__ == "__main__":
    unittest.main()
