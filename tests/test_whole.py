"""Whole programs: points 10.4, 10.5 and 10.8 to 10.10, and 0.3."""

import unittest

from plain_trees import plain_trees
from shapewright.agreement import agrees_with_level
from shapewright.basis import BASIS, BASIS_LOWERED
from shapewright.checker import check
from shapewright.compiler import compile_tree
from shapewright.engine import room, run_machine
from shapewright.errors import BadModule, BadText, DuplicateName, NotShaped, NotWellFormed, TooLarge, UnknownName, Weak, WrongArity
from shapewright.infer import infer_declaration
from shapewright.judge import right_declaration
from shapewright.levels import tidy
from shapewright.lower import record, wrap
from shapewright.plain import is_plain, size
from shapewright.reader import read_program
from shapewright.report import report
from shapewright.runner import run_program
from shapewright.schemes import at_least_as_general
from shapewright.steps import run
from shapewright.structures import declare_all
from shapewright.values import show
from shapewright.whole import check_program, execute, prepare, run_text
from typed import Typed
from wholes import ACCEPTED, Wholes, random_programs


def checked(text):
    return check_program(read_program(text))


class Checking(unittest.TestCase):
    def refuses(self, kind, text, **attributes):
        for attempt in (lambda: checked(text), lambda: run_text(text, 1000, 1000)):
            with self.assertRaises(kind) as caught:
                attempt()
            for name, value in attributes.items():
                self.assertEqual(getattr(caught.exception, name), value, text)

    def test_not_well_formed(self):
        for program in (None, 1, "val x = 1", ("val", ("pvar", "x"), ("int", 1)), (("val", ("pvar", "x"), ("int", True)),), (("val", ("pvar", "X"), ("int", 1)),), [], (("exception", "E", None),) * 13):
            with self.assertRaises(NotWellFormed):
                check_program(program)
        self.assertEqual(len(check_program((("exception", "E", None),) * 12)[0]), 12)

    def test_errors_of_declarations_are_passed_on(self):
        self.refuses(UnknownName, "val x = y", name=("y",))
        self.refuses(UnknownName, "val x = 1 val y : M.t = x", name=("M", "t"))
        self.refuses(NotShaped, "val x = 1 + True")
        self.refuses(WrongArity, "val x = Nil : list", name=("list",))
        self.refuses(DuplicateName, "rec f = fn x => x and f = fn x => x", name="f")
        self.refuses(BadModule, "module M = N", code="module", path=("N",))
        self.refuses(BadModule, "module M = struct end : sig val x : int end", code="missing", path=("x",))
        large = "alias 'a p = 'a * 'a * 'a * 'a * 'a * 'a alias 'a q = 'a p p p p alias t = int q q"
        self.refuses(TooLarge, large)
        self.refuses(BadText, "val x = )", at=8)
        self.refuses(BadText, "val x =", at=7)
        self.refuses(BadText, "val x = 1 ?", at=10)
        self.refuses(NotWellFormed, "val x = (1, 2, 3, 4, 5, 6, 7)")
        self.refuses(NotWellFormed, "val x = " + "(" * 31 + "1" + ")" * 31)

    def test_weak(self):
        self.refuses(Weak, "val r = ref Nil", name="r")
        self.refuses(Weak, "val x = 1 val a = ref None val b = ref Nil", name="a")
        self.refuses(Weak, "val a = ref None val b = ref Nil val u = a := Some 1", name="b")
        self.refuses(Weak, "module M = struct module N = struct val r = ref Nil end end", name="M")
        self.refuses(Weak, "module M = struct val r = ref Nil end open M val u = 1", name="M")
        # A weak entry that is hidden counts, too.
        self.refuses(Weak, "val r = ref Nil val r = 1", name="r")
        self.refuses(Weak, "val x = raise Match", name="x")
        self.refuses(Weak, "val (a, b) = (1, ref Nil)", name="b")
        for text in ("val r = ref Nil val u = r := 1 :: Nil", "val f = fn x => ref Nil", "val r = ref Nil : int list ref", "module M = struct val r = ref Nil end val u = M.r := True :: Nil"):
            checked(text)
        # The order is that of the entries; errors of declarations come first.
        self.refuses(NotShaped, "val r = ref Nil val x = 1 2")

    def test_what_is_returned(self):
        text = "val r = ref Nil val u = r := 1 :: Nil module M = struct val x = 1 end"
        program = read_program(text)
        entries, context, plain, lines = check_program(program)
        made, after, lowered, _ = declare_all(BASIS, program)
        self.assertEqual((entries, context), (made, after))
        self.assertEqual(entries[0], ("val", "r", (0, ("c", 3, (("c", 5, (("c", 0, ()),)),)))))
        self.assertEqual(context[0], (*BASIS[0], *entries))
        self.assertEqual(plain, wrap((*BASIS_LOWERED, *lowered), record(tidy(entries))))
        self.assertTrue(is_plain(plain, []))
        self.assertEqual(lines, report(entries, context[0]))
        self.assertEqual(lines, ["val r : int list ref", "val u : unit", "module M = sig", "  val x : int", "end"])

    def test_values_are_settled_by_later_declarations(self):
        entries, context, plain, lines = checked("module M = struct val r = ref Nil end val u = M.r := 1 :: Nil")
        self.assertEqual(lines[:3], ["module M = sig", "  val r : int list ref", "end"])
        self.assertEqual(run(plain, 1000)[0][0], "value")


class Running(unittest.TestCase):
    def test_programs(self):
        for text, lines, end, output in ACCEPTED:
            self.assertEqual(run_text(text, 5000, 100000), (lines, end, output), text)
            self.agrees(read_program(text))

    def test_little_room_and_fuel(self):
        text = "val u = print 4 val l = 1 :: 2 :: Nil val v = print 5"
        plain = checked(text)[2]
        need = room(prepare(plain), 10000)
        self.assertEqual(run_text(text, need, 10000)[1:], (("value", "{val l = Cons (1, Cons (2, Nil)), val u = (), val v = ()}"), (4, 5)))
        lines, end, output = run_text(text, need - 1, 10000)
        self.assertEqual((end, output), (("full",), (4, 5)[:len(output)]))
        self.assertEqual(lines, ["val u : unit", "val l : int list", "val v : unit"])
        self.assertEqual(run_text(text, 0, 0)[1:], (("fuel",), ()))
        self.assertEqual(run_text("rec f = fn x => f x val y : int = f 1", 1000, 5000)[1], ("fuel",))

    def test_prepare_and_execute(self):
        for tree in plain_trees(30, 4):
            self.assertEqual(prepare(tree), compile_tree(tree))
            self.assertIsNone(check(prepare(tree)))
            for every in (0, 1, 2):
                self.assertEqual(execute(tree, 500, 1000, every), run_machine(compile_tree(tree), 500, 1000, every))

    def agrees(self, program):
        """The main guarantee, for one program; returns the end of the meaning."""
        entries, context, plain, _ = check_program(program)
        self.assertTrue(is_plain(plain, []))
        end, state, steps = run(plain, 4000)
        self.assertIn(end[0], ("value", "raised", "fuel"))
        code = prepare(plain)
        self.assertIsNone(check(code))
        if end[0] == "value":
            for depth in (1, 3, 60):
                self.assertTrue(agrees_with_level(context[0], tidy(entries), end[1], state[4], depth))
        elif end[0] == "raised":
            self.assertEqual(end[1][0], "packet")
        if end[0] == "fuel":
            self.assertEqual(execute(plain, 100000, 4000, 0)[0], ("fuel",))
            return end[0]
        expected = ((end[0], show(end[1], state[4], 100)), state[6])
        other, output, store, _ = run_program(code, (steps + 1) * (20 * size(plain) + 20))
        self.assertEqual(((other[0], show(other[1], store, 100)), output), expected)
        need = room(code, 100000)
        for every in (0, 1, 7):
            self.assertEqual(execute(plain, need, 100000, every), expected)
        return end[0]

    def test_random_programs(self):
        ends = {}
        for program in random_programs(120):
            try:
                end = self.agrees(program)
            except Weak as error:
                end = "weak"
                self.assertIsInstance(error.name, str)
            ends[end] = ends.get(end, 0) + 1
        self.assertGreater(min(ends["value"], ends["raised"], ends["weak"]), 5, ends)

    def test_the_end_does_not_depend_on_where_the_steps_are_cut(self):
        plain = checked("rec sum = fn 0 => 0 | n => n + sum (n - 1) val u = print 1 val x = sum 5")[2]
        end, state, steps = run(plain, 10000)
        for fuel in range(0, steps + 5, 7):
            cut = run(plain, fuel)
            self.assertEqual(cut[0], ("fuel",) if fuel < steps else end)


class Shapes(unittest.TestCase):
    def test_every_shape_of_a_derivation_is_an_instance_of_what_is_told(self):
        for seed in range(60):
            typed = Typed(seed, BASIS[1])
            dec, derivation, entries = getattr(typed, "make_" + ("plain", "closed", "fixed")[seed % 3])(BASIS, 4)
            self.assertIsNotNone(right_declaration(BASIS, dec, derivation))
            told = check_program((dec,))[0]
            for entry, other in zip(told, entries):
                self.assertEqual(entry[:2], other[:2])
                self.assertTrue(at_least_as_general(entry[2], other[2]))
            self.assertEqual(infer_declaration(BASIS, dec)[0], told)

    def test_random_programs_are_not_changed(self):
        program = Wholes(3, BASIS[1]).program()
        self.assertEqual(program, Wholes(3, BASIS[1]).program())
        try:
            self.assertEqual(check_program(program), check_program(program))
        except Weak:
            pass
