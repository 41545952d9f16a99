"""Which values are instructions, and the operands of the operations: points 8.5 and 7.5."""

import unittest

from shapewright.instructions import is_instruction, operands

LEAST, GREATEST = -2147483648, 2147483647
# For each row of the table, values that are instructions and values that are none.
TABLE = {
    "int": ([(0,), (LEAST,), (GREATEST,), (-1,)], [(), (LEAST - 1,), (GREATEST + 1,), (True,), ("0",), (0, 0)]),
    "fixed": ([(0,), (3,)], [(), (4,), (-1,), (False,), ("Match",), (0, 0)]),
    "slot": ([(0,), (100,)], [(), (-1,), (True,), ("0",), (0, 0)]),
    "store": ([(0,), (100,)], [(), (-1,), (True,), ("0",), (0, 0)]),
    "captured": ([(0,), (100,)], [(), (-1,), (True,), ("0",), (0, 0)]),
    "drop": ([()], [(0,), ("x",)]),
    "tuple": ([(0,), (2,), (3,), (4,), (5,), (6,)], [(), (1,), (7,), (-1,), (False,), ("2",), ((),), (2, 2)]),
    "part": ([(0,), (5,)], [(), (-1,), (True,), ("0",), (0, 0)]),
    "record": ([((),), (("a",),), (("val x", "", "mod X"),)], [(), ("a",), (("a", "a"),), ((1,),), (("a", 1),), (0,), (("a",), ("b",))]),
    "field": ([("val x",), ("",)], [(), (0,), (("a",),), ("a", "b")]),
    "con": ([(0, "Nil"), (11, "")], [(), (0,), (12, "A"), (-1, "A"), (True, "A"), ("A", 0), (0, 1), (0, "A", "B")]),
    "wrap": ([(0, "Nil"), (11, "")], [(), (0,), (12, "A"), (-1, "A"), (True, "A"), ("A", 0), (0, 1), (0, "A", None)]),
    "argument": ([()], [(0,)]),
    "closure": ([(0,), (100,)], [(), (-1,), (True,), ("0",), (0, 0)]),
    "sibling": ([(0,), (100,)], [(), (-1,), (True,), ("0",), (0, 0)]),
    "call": ([()], [(0,)]),
    "tail": ([()], [(0,)]),
    "return": ([()], [(0,)]),
    "jump": ([(0,), (100,)], [(), (-1,), (True,), ("0",), (0, 0)]),
    "constructor": ([(0, 0), (11, 100)], [(), (0,), (12, 0), (-1, 0), (0, -1), (True, 0), (0, True), ("A", 0), (0, 0, 0)]),
    "integer": ([(0, 0), (LEAST, 100), (GREATEST, 1)], [(), (0,), (LEAST - 1, 0), (GREATEST + 1, 0), (0, -1), (True, 0), (0, False), (0, 0, 0)]),
    "exception": ([(0,), (100,)], [(), (-1,), (True,), ("E",), (0, 0)]),
    "new": ([("E",), ("",)], [(), (0,), (("E",),), ("E", 0)]),
    "packet": ([(True,), (False,)], [(), (0,), (1,), ("True",), (True, True)]),
    "raise": ([()], [(0,)]),
    "try": ([(0,), (100,)], [(), (-1,), (True,), ("0",), (0, 0)]),
    "end": ([()], [(0,)]),
    "prim": ([("add",), ("print",)], [(), ("",), ("ADD",), ("plus",), (0,), (("add",),), ("add", 2)]),
}
OPERATIONS = {
    "add": 2, "sub": 2, "mul": 2, "div": 2, "mod": 2, "neg": 1, "less": 2, "leq": 2, "equal": 2, "ref": 1, "fetch": 1,
    "assign": 2, "print": 1,
}


class Instructions(unittest.TestCase):
    def test_each_row_of_the_table(self):
        self.assertEqual(len(TABLE), 28)
        for tag, (right, wrong) in TABLE.items():
            for rest in right:
                self.assertIs(is_instruction((tag, *rest)), True, (tag, rest))
            for rest in wrong:
                self.assertIs(is_instruction((tag, *rest)), False, (tag, rest))

    def test_other_values(self):
        others = [(), ("",), ("Int", 0), ("halt",), (0,), (True,), (("int", 0),), ((),), ("var", "x"), ("fn", "x"), ("drop ",)]
        for value in others:
            self.assertIs(is_instruction(value), False, value)

    def test_every_operation_is_an_instruction(self):
        for name in OPERATIONS:
            self.assertIs(is_instruction(("prim", name)), True)

    def test_operands(self):
        for name, count in OPERATIONS.items():
            self.assertEqual(operands(name), count)
        for name in ("", "Add", "plus", "prim", "raise", "=", "ref ", "addsub"):
            self.assertEqual(operands(name), 0)
