"""The runner: points 8.2 to 8.7 and 8.13."""

import unittest

from plain_trees import plain_trees
from shapewright.checker import check
from shapewright.compiler import compile_tree
from shapewright.instructions import JUMPS
from shapewright.runner import run_program

RETURN = ("return",)
UNIT = ("tuple", ())
TRUE, FALSE = ("con", 1, "True", None), ("con", 0, "False", None)
MATCH = ("packet", 0, "Match", None)


def main(*code, slots=1):
    return ("main", 0, slots, code)


def function(*code, slots=1, captured=0):
    return ("f", captured, slots, code)


def n(number):
    return ("int", number)


RAISE_MATCH = (("fixed", 0), ("packet", False), ("raise",))
TWO_WAYS = (n(1), RETURN, n(2), RETURN)


def shifted(instruction):
    """The instruction in a code in which everything stands one place further behind."""
    return (*instruction[:-1], instruction[-1] + 1) if instruction[0] in JUMPS else instruction


class Runs(unittest.TestCase):
    def run_all(self, functions, fuel=1000):
        self.assertIsNone(check(functions), functions)
        return run_program(functions, fuel)

    def gives(self, value, *code, slots=3, functions=(), used=None):
        """The code pushes the value; it is carried out whole."""
        end, output, store, count = self.run_all((main(*code, RETURN, slots=slots), *functions))
        self.assertEqual((end, output, store), (("value", value), (), ()))
        self.assertEqual(count, len(code) + 1 if used is None else used)
        # The same with an operand below, which stays alone there.
        below = (n(99), *[shifted(one) for one in code], ("tuple", 2), RETURN)
        self.assertEqual(self.run_all((main(*below, slots=slots), *functions))[0], ("value", ("tuple", (n(99), value))))

    def is_stuck(self, *code, functions=(), output=(), after=None):
        """The last instruction is the one at which the machine is stuck."""
        end, printed, _, used = self.run_all((main(*code, *[RETURN] * (after is None), *(after or ()), slots=3), *functions))
        self.assertEqual((end, printed, used), (("stuck", "kind"), output, len(code) - 1))

    def test_pushing_values(self):
        self.gives(n(7), n(7))
        self.gives(n(-2147483648), n(-2147483648))
        for k, name in enumerate(("Match", "Bind", "Div", "Equality")):
            self.gives(("exn", k, name), ("fixed", k))
        self.gives(UNIT, ("tuple", 0))
        self.gives(("record", ()), ("record", ()))
        self.gives(("con", 3, "Blue", None), ("con", 3, "Blue"))
        self.gives(("con", 11, "", None), ("con", 11, ""))

    def test_slots(self):
        for i in range(3):
            self.gives(UNIT, ("slot", i))
            self.gives(n(5), n(5), ("store", i), ("slot", i))
        self.gives(n(2), n(1), ("store", 0), n(2), ("store", 1), n(3), ("store", 2), ("slot", 1))
        self.gives(n(2), n(1), ("store", 0), n(2), ("store", 0), ("slot", 0))
        self.gives(n(1), n(1), n(2), ("drop",))

    def test_tuples_and_records(self):
        self.gives(("tuple", (n(1), n(2))), n(1), n(2), ("tuple", 2))
        self.gives(("tuple", tuple(n(k) for k in range(6))), *[n(k) for k in range(6)], ("tuple", 6))
        for i in range(3):
            self.gives(n(4 + i), n(4), n(5), n(6), ("tuple", 3), ("part", i))
        self.gives(("record", (("b", n(1)), ("a", n(2)))), n(1), n(2), ("record", ("b", "a")))
        self.gives(n(1), n(1), n(2), ("record", ("b", "a")), ("field", "b"))
        self.gives(n(2), n(1), n(2), ("record", ("b", "")), ("field", ""))
        for wrong in ((n(1),), (("tuple", 0),), (n(1), n(2), ("tuple", 2)), (("fixed", 0),), (n(1), ("record", ("a",)))):
            self.is_stuck(*wrong, ("part", 2))
        for wrong in ((n(1),), (("tuple", 0),), (n(1), ("record", ("a",))), (n(1), n(2), ("tuple", 2)), (("record", ()),)):
            self.is_stuck(*wrong, ("field", "b"))

    def test_constructors(self):
        self.gives(("con", 1, "Some", n(4)), n(4), ("wrap", 1, "Some"))
        self.gives(n(4), n(4), ("wrap", 1, "Some"), ("argument",))
        self.gives(n(4), ("fixed", 1), n(4), ("packet", True), ("argument",))
        for wrong in ((("con", 0, "None"),), (("fixed", 1), ("packet", False)), (n(1),), (("tuple", 0),), (("fixed", 1),)):
            self.is_stuck(*wrong, ("argument",))

    def test_jumps(self):
        self.gives(n(2), n(2), ("jump", 3), ("drop",), used=3)
        for value, found in ((("con", 1, "A"), 1), (("con", 0, "B"), 2)):
            code = (value, ("constructor", 1, 4), n(1), ("jump", 5), n(2))
            self.gives(n(found), *code, used=5 if found == 1 else 4)
        self.gives(n(1), n(9), ("wrap", 1, "A"), ("constructor", 1, 5), n(1), ("jump", 6), n(2), used=6)
        for value, found in ((n(7), 1), (n(-7), 2)):
            self.gives(n(found), value, ("integer", 7, 4), n(1), ("jump", 5), n(2), used=5 if found == 1 else 4)
        for wrong in (n(1), ("tuple", 0), ("fixed", 0), ("record", ())):
            self.is_stuck(wrong, ("constructor", 1, 4), after=TWO_WAYS)
        for wrong in (("con", 0, "A"), ("tuple", 0), ("fixed", 0)):
            self.is_stuck(wrong, ("integer", 0, 4), after=TWO_WAYS)

    def test_exceptions(self):
        self.gives(("exn", 4, "E"), ("new", "E"))
        self.gives(("tuple", (("exn", 4, "E"), ("exn", 5, "E"))), ("new", "E"), ("new", "E"), ("tuple", 2))
        self.gives(("packet", 4, "E", None), ("new", "E"), ("packet", False))
        self.gives(("packet", 4, "E", n(1)), ("new", "E"), n(1), ("packet", True))
        for raised, named, found in ((0, 0, 1), (0, 1, 2), (3, 2, 2)):
            code = (("fixed", raised), ("packet", False), ("fixed", named), ("exception", 6), n(1), ("jump", 7), n(2))
            self.gives(n(found), *code, used=7 if found == 1 else 6)
        two = (("new", "E"), ("packet", False), ("new", "E"), ("exception", 6), n(1), ("jump", 7), n(2))
        self.gives(n(2), *two, used=6)
        self.is_stuck(n(1), ("fixed", 0), ("exception", 5), after=TWO_WAYS)
        self.is_stuck(("fixed", 0), ("packet", False), n(0), ("exception", 6), after=TWO_WAYS)
        self.is_stuck(("fixed", 0), ("fixed", 0), ("exception", 5), after=TWO_WAYS)
        self.is_stuck(n(1), ("packet", False))
        self.is_stuck(n(1), n(2), ("packet", True))
        self.is_stuck(("fixed", 0), ("packet", False), ("packet", False))

    def test_closures_and_calls(self):
        swap = function(("captured", 1), ("captured", 0), ("slot", 0), ("slot", 1), ("tuple", 4), RETURN, slots=2, captured=2)
        self.gives(("closure", 1, (n(1), n(2))), n(1), n(2), ("closure", 1), functions=[swap])
        self.gives(("tuple", (n(2), n(1), n(3), UNIT)), n(1), n(2), ("closure", 1), n(3), ("call",), functions=[swap], used=12)
        self.gives(("tuple", (n(8), ("tuple", (n(2), n(1), n(3), UNIT)))), n(8), n(1), n(2), ("closure", 1), n(3), ("call",), ("tuple", 2), functions=[swap], used=14)
        sibling = function(("sibling", 2), RETURN, captured=1)
        other = function(("captured", 0), RETURN, captured=1)
        self.gives(("closure", 2, (n(5),)), n(5), ("closure", 1), n(0), ("call",), functions=[sibling, other], used=7)
        for wrong in (n(1), ("tuple", 0), ("fixed", 0), ("con", 0, "A")):
            self.is_stuck(wrong, n(1), ("call",))
            self.is_stuck(wrong, n(1), ("tail",), after=())
        # The argument is the operand that is pushed last.
        self.is_stuck(n(1), ("closure", 1), ("call",), functions=[function(("slot", 0), RETURN)])

    def test_tail_calls(self):
        identity = function(("slot", 0), RETURN)
        end = self.run_all((main(("closure", 1), n(3), ("tail",)), identity))
        self.assertEqual(end, (("value", n(3)), (), (), 5))
        through = function(("closure", 2), ("slot", 0), ("tail",))
        code = main(("closure", 1), n(3), ("call",), ("store", 0), ("slot", 0), ("slot", 0), ("tuple", 2), RETURN)
        self.assertEqual(self.run_all((code, through, identity)), (("value", ("tuple", (n(3), n(3)))), (), (), 13))

    def test_raising(self):
        def ends(end, used, *code, functions=(), slots=1):
            self.assertEqual(self.run_all((main(*code, slots=slots), *functions)), (end, (), (), used))

        ends(("raised", MATCH), 3, *RAISE_MATCH)
        self.is_stuck(n(1), ("raise",), after=())
        self.is_stuck(("fixed", 0), ("raise",), after=())
        # The handler gets the packet and the operands below, and nothing else.
        ends(("value", ("tuple", (n(1), MATCH))), 8, n(1), ("try", 6), n(2), *RAISE_MATCH, ("tuple", 2), RETURN)
        ends(("value", ("tuple", (n(1), MATCH))), 9, n(1), ("try", 7), n(2), n(3), *RAISE_MATCH, ("tuple", 2), RETURN)
        # `end` removes the handler; the last one counts.
        ends(("raised", MATCH), 6, ("try", 6), n(1), ("end",), *RAISE_MATCH, RETURN)
        inner = (("try", 11), ("try", 5), *RAISE_MATCH, ("drop",), ("end",), n(7), RETURN, ("drop",), n(8), ("drop",), n(9), RETURN)
        ends(("value", n(7)), 9, *inner)
        outer = (("try", 8), ("try", 7), n(1), ("end",), *RAISE_MATCH, RETURN, ("drop",), n(9), RETURN)
        self.assertEqual(check((main(*outer),)), (0, 7, "handler"))
        outer = (("try", 9), ("try", 7), n(1), ("end",), *RAISE_MATCH[:2], ("raise",), ("end",), RETURN, ("drop",), n(9), RETURN)
        ends(("value", n(9)), 10, *outer)
        # Frames without handlers are removed.
        raising = function(*RAISE_MATCH)
        calling = function(n(1), ("closure", 1), n(2), ("call",), ("tuple", 2), RETURN)
        ends(("raised", MATCH), 10, ("closure", 2), n(1), ("call",), RETURN, functions=[raising, calling])
        code = (("try", 6), ("closure", 2), n(1), ("call",), ("end",), RETURN, RETURN)
        ends(("value", MATCH), 12, *code, functions=[raising, calling])

    def test_operations(self):
        rows = [("add", (3, 4), n(7)), ("sub", (3, 4), n(-1)), ("mul", (3, 4), n(12)), ("div", (-7, 2), n(-4)), ("mod", (-7, 2), n(1)), ("neg", (3,), n(-3)),
                ("less", (1, 2), TRUE), ("less", (2, 2), FALSE), ("leq", (2, 2), TRUE), ("leq", (3, 2), FALSE), ("equal", (2, 2), TRUE), ("equal", (2, 3), FALSE),
                ("add", (2147483647, 1), n(-2147483648)), ("mul", (65536, 65536), n(0)), ("neg", (-2147483648,), n(-2147483648))]
        for name, numbers, value in rows:
            self.gives(value, *[n(number) for number in numbers], ("prim", name))
        for name in ("add", "sub", "mul", "div", "mod", "less", "leq"):
            self.is_stuck(n(1), ("tuple", 0), ("prim", name))
            self.is_stuck(("tuple", 0), n(1), ("prim", name))
        for name in ("neg", "fetch", "print"):
            self.is_stuck(("tuple", 0), ("prim", name))
        self.is_stuck(n(1), n(2), ("prim", "assign"))
        for name in ("div", "mod"):
            self.assertEqual(self.run_all((main(n(1), n(0), ("prim", name), RETURN),)), (("raised", ("packet", 2, "Div", None)), (), (), 3))
        equality = (("raised", ("packet", 3, "Equality", None)), (), ())
        self.assertEqual(self.run_all((main(n(1), ("tuple", 0), ("prim", "equal"), RETURN),))[:3], equality)
        self.assertEqual(self.run_all((main(("closure", 1), ("closure", 1), ("prim", "equal"), RETURN), function(("slot", 0), RETURN)))[:3], equality)
        code = (n(1), ("try", 6), n(1), n(0), ("prim", "div"), ("end",), ("tuple", 2), RETURN)
        self.assertEqual(self.run_all((main(*code),))[0], ("value", ("tuple", (n(1), ("packet", 2, "Div", None)))))

        below = (n(7), n(1), ("prim", "ref"), n(2), ("prim", "assign"), ("tuple", 2), RETURN)
        self.assertEqual(self.run_all((main(*below),)), (("value", ("tuple", (n(7), UNIT))), (), (n(2),), 7))
        below = (n(7), n(1), ("prim", "print"), ("tuple", 2), n(3), ("prim", "ref"), ("prim", "fetch"), ("tuple", 2), RETURN)
        self.assertEqual(self.run_all((main(*below),)), (("value", ("tuple", (("tuple", (n(7), UNIT)), n(3)))), (1,), (n(3),), 9))

    def test_every_other_kind_of_value(self):
        """Each instruction that looks at a value, with values of all kinds that have as many parts as it needs."""
        three = (n(4), n(5), n(6))
        values = {
            "int": (n(0),), "unit": (("tuple", 0),), "tuple": (*three, ("tuple", 3)), "record": (*three, ("record", ("a", "b", "c"))), "con": (("con", 0, "A"),),
            "wrap": (n(4), ("wrap", 0, "A")), "closure": (*three, ("closure", 1)), "exception": (("fixed", 0),), "packet": (("fixed", 0), ("packet", False)),
            "carrying": (("fixed", 0), n(4), ("packet", True)), "ref": (n(4), ("prim", "ref")),
        }
        rows = [(("part", 0), "tuple"), (("part", 2), "tuple"), (("field", "a"), "record"), (("argument",), "wrap carrying"), (("packet", False), "exception"),
                (("prim", "neg"), "int"), (("prim", "fetch"), "ref"), (("prim", "print"), "int")]
        function_with_three = function(("slot", 0), RETURN, captured=3)
        for instruction, right in rows:
            for kind, code in values.items():
                end = self.run_all((main(*code, instruction, RETURN), function_with_three))[0]
                self.assertEqual(end[0] == "value", kind in right.split(), (instruction, kind))
                self.assertIn(end[0], ("value", "stuck"))
        for kind, code in values.items():
            length = len(code)
            for instruction, right in ((("constructor", 0, length + 3), "con wrap"), (("integer", 0, length + 3), "int")):
                end = self.run_all((main(*code, instruction, *TWO_WAYS), function_with_three))[0]
                self.assertEqual(end, ("value", n(1)) if kind in right.split() else ("stuck", "kind"), (instruction, kind))
            end = self.run_all((main(*code, ("fixed", 0), ("exception", length + 4), *TWO_WAYS), function_with_three))[0]
            self.assertEqual(end, ("value", n(1)) if kind in ("packet", "carrying") else ("stuck", "kind"), kind)
            end = self.run_all((main(("fixed", 0), ("packet", False), *code, ("exception", length + 5), *TWO_WAYS), function_with_three))[0]
            self.assertEqual(end, ("value", n(1)) if kind == "exception" else ("stuck", "kind"), kind)
            end = self.run_all((main(*code, n(1), ("prim", "assign"), RETURN), function_with_three))[0]
            self.assertEqual(end, ("value", UNIT) if kind == "ref" else ("stuck", "kind"), kind)
            end = self.run_all((main(*code, n(1), ("call",), RETURN), function_with_three))[0]
            self.assertEqual(end, ("value", n(1)) if kind == "closure" else ("stuck", "kind"), kind)
            end = self.run_all((main(*code, n(1), ("packet", True), RETURN), function_with_three))[0]
            self.assertEqual(end, ("value", ("packet", 0, "Match", n(1))) if kind == "exception" else ("stuck", "kind"), kind)
            end = self.run_all((main(*code, ("raise",)), function_with_three))[0]
            self.assertEqual(end[0], "raised" if kind in ("packet", "carrying") else "stuck", kind)

    def test_store_and_output(self):
        code = (n(1), ("prim", "ref"), ("store", 0), n(2), ("prim", "ref"), ("store", 1), ("slot", 0), ("prim", "fetch"), ("prim", "print"), ("drop",),
                ("slot", 0), n(5), ("prim", "assign"), ("drop",), ("slot", 0), ("prim", "fetch"), ("prim", "print"), ("slot", 1), ("tuple", 2), RETURN)
        end = self.run_all((main(*code, slots=2),))
        self.assertEqual(end, (("value", ("tuple", (UNIT, ("ref", 1)))), (1, 5), (n(5), n(2)), 20))
        self.assertEqual(self.run_all((main(*code, slots=2),), 15)[1:], ((1,), (n(5), n(2)), 15))
        self.is_stuck(n(4), ("prim", "print"), ("raise",), output=(4,), after=())

    def test_fuel(self):
        program = (main(n(1), n(2), ("prim", "add"), RETURN),)
        for fuel in range(4):
            self.assertEqual(self.run_all(program, fuel), (("fuel",), (), (), fuel))
        for fuel in (4, 5, 1000):
            self.assertEqual(self.run_all(program, fuel), (("value", n(3)), (), (), 4))
        stuck = (main(n(1), ("raise",)),)
        self.assertEqual(self.run_all(stuck, 1), (("fuel",), (), (), 1))
        self.assertEqual(self.run_all(stuck, 2), (("stuck", "kind"), (), (), 1))
        loop = (main(("closure", 1), n(0), ("tail",)), function(("sibling", 1), ("slot", 0), n(1), ("prim", "add"), ("tail",)))
        self.assertEqual(self.run_all(loop, 50000), (("fuel",), (), (), 50000))
        deep = (main(("closure", 1), n(0), ("tail",)), function(("sibling", 1), ("slot", 0), ("call",), RETURN))
        self.assertEqual(self.run_all(deep, 50000), (("fuel",), (), (), 50000))

    def test_what_does_not_exist(self):
        """Programs that the checker refuses: the word is "broken", also where the values are of another kind."""
        programs = [
            (main(("drop",)),), (main(n(1)),), (main(("slot", 1)),), (main(n(1), ("store", 1)),), (main(("captured", 0)),), (main(("closure", 1)),),
            (main(("sibling", 1)),), (main(("end",)),), (main(("jump", 9)),), (main(n(1), ("prim", "add")),), (main(n(1), ("call",)),), (main(RETURN),),
            (main(n(1), ("tuple", 2)),), (main(n(1), ("record", ("a", "b"))),), (main(("raise",)),), (main(n(1), ("packet", True)),),
        ]
        for program in programs:
            self.assertIsNotNone(check(program))
            self.assertEqual(run_program(program, 100)[0], ("stuck", "broken"), program)

    def test_no_argument_is_changed_and_runs_are_equal(self):
        for tree in plain_trees(50, 4):
            program = compile_tree(tree)
            first = run_program(program, 500)
            self.assertEqual(run_program(program, 500), first)
            self.assertEqual(program, compile_tree(tree))
