"""The code checker: points 8.2, 8.8, 8.9 and 8.10."""

import random
import unittest

from plain_trees import plain_trees
from shapewright.checker import check
from shapewright.compiler import compile_tree
from shapewright.instructions import is_instruction
from shapewright.runner import run_program

RETURN = ("return",)
INT = ("int", 1)
UNIT = ("tuple", 0)


def main(*code, slots=1, captured=0):
    return ("main", captured, slots, code)


def function(*code, slots=1, captured=0):
    return ("f", captured, slots, code)


OTHER = function(("slot", 0), RETURN)
CAPTURING = function(("captured", 1), RETURN, captured=2)


class Checker(unittest.TestCase):
    def accepts(self, *functions):
        self.assertIsNone(check(functions), functions)

    def refuses(self, fault, *functions):
        self.assertEqual(check(functions), fault, functions)

    def at(self, place, word, *code, slots=1):
        """The fault is reported in the main function, and likewise in another function."""
        self.refuses((0, place, word), main(*code, slots=slots), OTHER, CAPTURING)
        self.refuses((1, place, word), main(INT, RETURN), function(*code, slots=slots), CAPTURING)

    def test_form_of_programs_and_functions(self):
        self.refuses((0, 0, "form"))
        self.refuses((0, 0, "form"), main(INT, RETURN, captured=1))
        self.refuses((0, 0, "form"), main(INT, RETURN, slots=0))
        self.refuses((0, 0, "form"), main())
        self.refuses((0, 0, "form"), main(("drop",), RETURN, slots=0))
        self.refuses((1, 0, "form"), main(INT, RETURN), function())
        self.refuses((1, 0, "form"), main(INT, RETURN), function(INT, ("halt",), slots=0))
        self.refuses((0, 1, "last"), main(INT, INT), function())
        self.accepts(main(INT, RETURN), function(INT, RETURN, captured=3, slots=9))

    def test_form(self):
        self.at(0, "form", ("halt",), RETURN)
        self.at(1, "form", INT, ("fixed", 4), RETURN)
        self.at(1, "form", INT, ("tuple", 1), RETURN)
        self.at(1, "form", INT, (), RETURN)
        self.at(2, "form", INT, RETURN, ("prim", "plus"))
        self.at(2, "form", INT, RETURN, ("con", 12, "A"), ("halt",))
        # Places that cannot be reached are checked for their form alone.
        unreachable = [("drop",), ("slot", 9), ("captured", 9), ("closure", 9), ("sibling", 9), ("jump", 0), ("jump", 99), ("end",), RETURN, ("tail",), INT]
        for instruction in unreachable:
            self.accepts(main(INT, RETURN, instruction))
            self.accepts(main(INT, RETURN, INT, instruction))
        self.accepts(main(("jump", 3), ("drop",), ("jump", 0), INT, RETURN))

    def test_target(self):
        for tag in (("jump",), ("try",)):
            self.at(1, "target", INT, (*tag, 1), RETURN)
            self.at(1, "target", INT, (*tag, 0), RETURN)
            self.at(1, "target", INT, (*tag, 3), RETURN)
            self.at(1, "target", INT, (*tag, 99), RETURN)
        self.at(1, "target", INT, ("integer", 0, 1), INT, RETURN)
        self.at(1, "target", INT, ("integer", 0, 4), INT, RETURN)
        self.at(1, "target", INT, ("constructor", 0, 4), INT, RETURN)
        self.at(0, "target", ("constructor", 0, 0), INT, RETURN)
        self.at(2, "target", INT, INT, ("exception", 5), INT, RETURN)
        self.at(0, "target", ("exception", 0), INT, RETURN)
        self.at(1, "target", INT, ("jump", 2))
        self.accepts(main(INT, ("jump", 2), RETURN))
        # The target is looked at before the operands.
        self.at(0, "target", ("integer", 0, 0), RETURN)

    def test_slot(self):
        for word in ("slot", "store"):
            self.at(1, "slot", INT, (word, 1), RETURN)
            self.at(1, "slot", INT, (word, 3), RETURN, slots=3)
            self.at(0, "slot", (word, 1), RETURN)
        self.accepts(main(INT, ("store", 2), ("slot", 2), RETURN, slots=3))

    def test_captured(self):
        self.at(0, "captured", ("captured", 0), RETURN)
        self.refuses((1, 0, "captured"), main(INT, RETURN), function(("captured", 2), RETURN, captured=2))
        self.accepts(main(INT, RETURN), function(("captured", 1), RETURN, captured=2))

    def test_function(self):
        for word in ("closure", "sibling"):
            self.at(0, "function", (word, 3), RETURN)
            self.at(0, "function", (word, 99), RETURN)
        self.accepts(main(("closure", 1), RETURN), OTHER)
        self.accepts(main(("closure", 0), RETURN), OTHER)
        self.accepts(main(INT, INT, ("closure", 1), RETURN), CAPTURING)

    def test_sibling(self):
        self.at(0, "sibling", ("sibling", 2), RETURN)
        self.accepts(main(("sibling", 1), RETURN), OTHER)
        self.accepts(main(("sibling", 0), RETURN))
        self.accepts(main(INT, RETURN), function(("sibling", 2), RETURN, captured=2), CAPTURING)
        self.refuses((1, 0, "sibling"), main(INT, RETURN), function(("sibling", 2), RETURN, captured=1), CAPTURING)

    def test_too_few_operands(self):
        rows = [(("store", 0), 1), (("drop",), 1), (("tuple", 2), 2), (("tuple", 6), 6), (("part", 0), 1), (("record", ("a", "b")), 2),
                (("field", "a"), 1), (("wrap", 0, "A"), 1), (("argument",), 1), (("closure", 2), 2), (("call",), 2), (("tail",), 2), (RETURN, 1),
                (("constructor", 0, 9), 1), (("integer", 0, 9), 1), (("exception", 9), 2), (("packet", False), 1), (("packet", True), 2),
                (("raise",), 1), (("prim", "add"), 2), (("prim", "neg"), 1), (("prim", "assign"), 2), (("prim", "print"), 1)]
        for instruction, count in rows:
            rest = [INT] * 12
            self.at(count - 1, "depth", *[INT] * (count - 1), instruction, *rest, RETURN)
        for instruction in (INT, ("fixed", 0), ("slot", 0), ("tuple", 0), ("record", ()), ("con", 0, "A"), ("closure", 1), ("new", "E"), ("sibling", 0)):
            self.accepts(main(instruction, RETURN), OTHER)

    def test_what_is_left_for_a_handler(self):
        for instruction, popped in ((("call",), 2), (("raise",), 1), (("prim", "div"), 2), (("prim", "mod"), 2), (("prim", "equal"), 2)):
            # Two operands are there at the `try`.
            enough = [INT, INT, ("try", 6 + popped), *[INT] * popped, instruction, ("end",), RETURN]
            few = [INT, INT, ("try", 6 + popped), *[INT] * (popped - 1), instruction, ("end",), RETURN, INT, INT, INT]
            self.assertNotEqual(check((main(*enough, RETURN),)), (0, 3 + popped, "depth"))
            self.at(2 + popped, "depth", *few)
        for instruction in (("prim", "add"), ("prim", "less"), ("exception", 7)):
            code = [INT, ("try", 7), INT, instruction, INT, INT, ("end",), INT, INT, RETURN]
            self.assertNotIn(check((main(*code),)), [(0, 3, "depth"), (0, 3, "handler")], instruction)

    def test_handler(self):
        self.at(1, "handler", INT, ("end",), RETURN)
        self.at(2, "handler", ("try", 3), INT, RETURN, RETURN)
        self.at(3, "handler", ("try", 4), INT, INT, ("tail",), RETURN)
        self.at(3, "handler", INT, ("try", 5), ("drop",), ("end",), RETURN, RETURN)
        self.accepts(main(("try", 4), INT, ("end",), RETURN, RETURN))
        self.accepts(main(INT, ("try", 4), ("end",), RETURN, ("drop",), RETURN))
        # Two handlers: the last one counts, and the one below stays.
        self.accepts(main(("try", 8), ("try", 5), INT, ("end",), ("jump", 5), ("end",), RETURN, INT, RETURN))
        self.at(4, "handler", ("try", 6), ("try", 5), INT, ("end",), RETURN, ("end",), RETURN)

    def test_extra(self):
        self.at(2, "extra", INT, INT, RETURN)
        self.at(3, "extra", INT, INT, INT, ("tail",))
        # A handler that is left is reported before operands that are left.
        self.at(3, "handler", ("try", 4), INT, INT, RETURN, RETURN)

    def test_last(self):
        self.at(0, "last", INT)
        self.at(1, "last", INT, ("drop",))
        self.at(2, "last", INT, INT, ("call",))
        self.at(4, "last", ("try", 4), INT, ("end",), RETURN, ("drop",))
        self.accepts(main(INT, ("packet", False), ("raise",)))
        self.accepts(main(INT, INT, ("tail",)))

    def test_join(self):
        # A jump and the way from before meet with different numbers of operands.
        self.at(3, "join", INT, ("integer", 1, 3), INT, ("drop",), INT, RETURN)
        self.accepts(main(INT, ("integer", 1, 4), INT, RETURN, INT, RETURN))
        self.accepts(main(INT, ("integer", 1, 5), INT, ("jump", 6), INT, INT, RETURN))
        # Different handlers.
        self.at(4, "join", INT, ("integer", 1, 4), ("try", 5), INT, INT, RETURN)
        self.at(7, "join", INT, ("integer", 1, 5), ("try", 8), INT, ("jump", 7), ("try", 9), INT, ("end",), RETURN, RETURN)
        # The place of a handler has one operand more than its `try`.
        self.at(3, "join", INT, ("try", 3), ("end",), RETURN)
        # At one place the ways are looked at before the instruction.
        self.at(3, "join", INT, ("integer", 1, 3), INT, ("halt",), RETURN)
        self.at(3, "join", INT, ("integer", 1, 3), INT, ("slot", 7), RETURN)

    def test_the_order_of_the_words_at_one_place(self):
        self.at(0, "target", ("constructor", 0, 0))
        self.at(0, "slot", ("store", 5))
        self.at(0, "function", ("closure", 5))
        self.at(0, "handler", ("end",))
        self.at(0, "depth", ("drop",))
        self.at(1, "depth", ("try", 2), RETURN, RETURN)
        self.at(0, "sibling", ("sibling", 2))
        self.refuses((1, 0, "sibling"), main(INT, RETURN), function(("sibling", 0), captured=1))

    def test_the_first_place_and_the_first_function_count(self):
        self.at(1, "slot", INT, ("slot", 3), ("halt",))
        self.refuses((0, 1, "slot"), main(INT, ("slot", 3), RETURN), function())
        self.refuses((1, 1, "last"), main(INT, RETURN), function(INT, INT), function())

    def test_the_programs_are_not_changed_and_may_have_any_names(self):
        self.accepts(("", 0, 1, (INT, RETURN)), ("", 0, 1, (INT, RETURN)))


def mutated(chance, program):
    """The program with one small change."""
    number = chance.randrange(len(program))
    name, captured, slots, code = program[number]
    place = chance.randrange(len(code))
    roll = chance.random()
    if roll < 0.2:
        code = (*code[:place], *code[place + 1:])
    elif roll < 0.4:
        other = chance.choice(chance.choice(program)[3])
        code = (*code[:place], other, *code[place:])
    elif roll < 0.5:
        slots += chance.choice([-1, 1])
    elif roll < 0.6:
        captured += chance.choice([-1, 1])
    else:
        instruction = list(code[place])
        at = chance.randrange(len(instruction))
        if isinstance(instruction[at], int):
            instruction[at] = int(instruction[at]) + chance.choice([-1, 1, 2])
        elif at > 0:
            instruction[at] = chance.choice(["add", "print", "neg", "div"])
        code = (*code[:place], tuple(instruction), *code[place + 1:])
    return (*program[:number], (name, max(0, captured), max(0, slots), code), *program[number + 1:])


class Accepted(unittest.TestCase):
    def test_code_that_is_accepted_is_never_broken(self):
        chance = random.Random(8)
        seen = {"accepted": 0, "refused": 0, "kind": 0}
        for tree in plain_trees(300, 4):
            program = compile_tree(tree)
            for _ in range(12):
                program = mutated(chance, program)
                if check(program) is not None:
                    seen["refused"] += 1
                    program = compile_tree(tree)
                    continue
                seen["accepted"] += 1
                self.assertTrue(all(is_instruction(one) for part in program for one in part[3]))
                end = run_program(program, 2000)[0]
                self.assertNotEqual(end, ("stuck", "broken"))
                seen["kind"] += end == ("stuck", "kind")
        self.assertGreater(min(seen.values()), 100, seen)
