"""The machine: points 9.1 to 9.11, and 8.4 to 8.10 where it carries out the instructions."""

import random
import unittest
from unittest import mock

import test_runner
from heaps import beginnings, graph
from plain_trees import BOOL, LIST, plain_trees
from shapewright import engine
from shapewright.checker import check
from shapewright.collector import reachable
from shapewright.compiler import compile_tree
from shapewright.engine import Machine, room, run_machine
from shapewright.numbering import numbered_labels, numbered_names
from shapewright.runner import run_program
from shapewright.values import show
from test_checker import mutated

RETURN = ("return",)
ONE, TWO = ("int", 1), ("int", 2)
X, F = ("var", "x"), ("var", "f")
FULL = ("full",)
RAISE_MATCH = (("fixed", 0), ("packet", False), ("raise",))


def main(*code, slots=1):
    return ("main", 0, slots, code)


def function(*code, slots=1, captured=0):
    return ("f", captured, slots, code)


def told(program, fuel):
    """The end and the output of the runner, as the machine tells them."""
    end, output, store, _ = run_program(program, fuel)
    if end[0] in ("value", "raised"):
        end = (end[0], show(end[1], store, 100))
    return end, output


def stepped(program, cells, steps):
    machine = Machine(program, cells)
    for _ in range(steps):
        machine.step()
    return machine


def prim(name, *parts):
    return ("prim", name, parts)


def call(name, argument):
    return ("app", ("var", name), argument)


def loop(body, start):
    """A function that calls itself with another argument for ever."""
    return ("rec", (("f", "x", body),), call("f", start))


class Blocks(unittest.TestCase):
    def makes(self, words, *code, functions=(), more=0, slots=1):
        """The last instruction of the code needs a block of so many words, and `more` are in use before."""
        rest = [ONE] if code[-1][0] in ("store", "drop") else []
        program = (main(*code, *rest, RETURN, slots=slots), *functions)
        self.assertIsNone(check(program), program)
        machine = stepped(program, 1000, len(code) - 1)
        self.assertEqual((machine.used(), machine.end()), (more, None))
        machine.step()
        self.assertEqual((machine.used(), machine.end()), (more + words, None))
        if words:
            machine = stepped(program, more + words - 1, len(code) - 1)
            self.assertIsNone(machine.end())
            machine.step()
            self.assertEqual((machine.end(), machine.frames()), (FULL, 0))
        return program

    def test_the_words_of_each_instruction(self):
        self.makes(0, ("int", 5))
        self.makes(0, ("slot", 0))
        self.makes(0, ONE, ("store", 0))
        self.makes(0, ONE, ("drop",))
        self.makes(0, ("tuple", 0))
        self.makes(0, ("con", 3, "A"))
        self.makes(4, ("fixed", 3))
        self.makes(4, ("new", "E"))
        for count in range(2, 7):
            self.makes(4 + count, *[ONE] * count, ("tuple", count))
        for count in (0, 1, 5):
            self.makes(4 + count, *[ONE] * count, ("record", tuple(f"l{k}" for k in range(count))))
        self.makes(5, ONE, ("wrap", 1, "A"))
        self.makes(5, ONE, ("prim", "ref"))
        self.makes(4, ("fixed", 0), ("packet", False), more=4)
        self.makes(5, ("fixed", 0), ONE, ("packet", True), more=4)
        self.makes(4, ("closure", 1), functions=[function(("slot", 0), RETURN)])
        self.makes(6, ONE, TWO, ("closure", 1), functions=[function(("slot", 0), RETURN, captured=2)])
        self.makes(4, ("sibling", 0))
        self.makes(0, ONE, TWO, ("tuple", 2), ("part", 0), more=6)
        self.makes(0, ONE, ("record", ("a",)), ("field", "a"), more=5)
        self.makes(0, ONE, ("wrap", 0, "A"), ("argument",), more=5)
        self.makes(0, ONE, ("prim", "ref"), ("prim", "fetch"), more=5)
        self.makes(0, ONE, ("prim", "ref"), TWO, ("prim", "assign"), more=5)
        for name in ("add", "sub", "mul", "div", "mod", "less", "leq", "equal"):
            self.makes(0, ONE, TWO, ("prim", name))
        for name in ("neg", "print"):
            self.makes(0, ONE, ("prim", name))

    def test_the_sibling_has_the_captured_values(self):
        siblings = [function(("sibling", 2), RETURN, captured=2), function(("captured", 1), ("captured", 0), ("tuple", 2), RETURN, captured=2)]
        program = (main(ONE, TWO, ("closure", 1), ("int", 0), ("call",), ("int", 0), ("call",), RETURN), *siblings)
        self.assertEqual(run_machine(program, 1000, 100, 0), (("value", "(2, 1)"), ()))
        machine = stepped(program, 1000, 6)
        self.assertEqual(machine.heap.words, [3, 1, 0, 2, 4, 8, 3, 2, 0, 2, 4, 8])
        self.assertEqual(room(program, 6), 12)
        self.assertEqual(run_machine(program, room(program, 100), 100, 1), (("value", "(2, 1)"), ()))

    def test_packets_of_operations_are_new_blocks(self):
        for code in ((ONE, ("int", 0), ("prim", "div")), (ONE, ("int", 0), ("prim", "mod")), (("tuple", 0), ("int", 0), ("prim", "equal"))):
            text = "Equality" if code[2][1] == "equal" else "Div"
            for program in ((main(*code, RETURN),), (main(("try", 6), *code, ("end",), RETURN, RETURN),)):
                self.assertIsNone(check(program))
                caught = len(program[0][3]) > 4
                self.assertEqual(run_machine(program, 4, 100, 0)[0], ("value" if caught else "raised", text))
                self.assertEqual(run_machine(program, 3, 100, 0)[0], FULL)
                self.assertEqual(room(program, 100), 4)

    def test_an_instruction_that_is_stuck_is_not_full(self):
        rows = [(ONE, ("packet", False)), (ONE, TWO, ("packet", True)), (ONE, ("tuple", 0), ("prim", "div")), (ONE, ("prim", "fetch"))]
        for code in rows:
            self.assertEqual(run_machine((main(*code, RETURN),), 0, 100, 0)[0], ("stuck", "kind"))

    def test_headers_and_fields(self):
        """The rows of the table of point 9.4, and the numbers of point 9.3."""
        code = (ONE, ("con", 7, "True"), ("tuple", 2), ("record", ("z",)), ("int", 9), ("wrap", 3, "Zed"), ("closure", 1), ("new", "E"), ("fixed", 2), ("prim", "ref"),
                ("tuple", 4), ("new", "E"), ("packet", False), ("fixed", 1), ("con", 0, "E"), ("packet", True), ("tuple", 3), RETURN)
        program = (main(*code), function(ONE, ONE, ("record", ("z", "a")), RETURN, captured=1))
        self.assertIsNone(check(program))
        machine = stepped(program, 1000, len(code) - 1)
        blocks = {}
        for at in beginnings(machine.heap.words):
            count = machine.heap.words[at + 3]
            blocks.setdefault(tuple(machine.heap.words[at:at + 3]), []).append(machine.heap.words[at + 4:at + 4 + count])
        self.assertEqual(numbered_names(program), {"Match": 0, "Bind": 1, "Div": 2, "Equality": 3, "False": 4, "True": 5, "Zed": 6, "E": 7})
        self.assertEqual(numbered_labels(program), {("z",): 0, ("z", "a"): 1})
        self.assertEqual(blocks[0, 0, 0][0], [4, 4 * (16 * 5 + 7) + 2])
        self.assertEqual(blocks[1, 0, 0], [[1]])
        self.assertEqual(blocks[2, 6, 3], [[36]])
        self.assertEqual(len(blocks[3, 1, 0][0]), 1)
        self.assertEqual((blocks[4, 4, 7], blocks[4, 2, 2], blocks[4, 5, 7]), ([[]], [[]], [[]]))
        self.assertEqual((blocks[5, 5, 7], blocks[5, 1, 1]), ([[]], [[4 * (16 * 7 + 0) + 2]]))
        self.assertEqual(len(blocks[6, 0, 0]), 1)

    def test_words_of_values(self):
        program = (main(("int", -3), ("tuple", 0), ("con", 11, "A"), ("con", 0, "False"), ("tuple", 4), RETURN),)
        machine = stepped(program, 100, 5)
        self.assertEqual(machine.heap.words, [0, 0, 0, 4, -12, 3, 4 * (16 * 6 + 11) + 2, 4 * 16 * 4 + 2])
        self.assertEqual(run_machine(program, 100, 100, 0)[0], ("value", "(~3, (), A, False)"))


class TheSameAsTheRunner(test_runner.Runs):
    """All programs of the tests of the runner, on the machine."""

    def run_all(self, functions, fuel=1000):
        result = super().run_all(functions, fuel)
        for every in (0, 1, 3):
            self.assertEqual(run_machine(functions, 2000000, fuel, every if fuel < 10000 else 0), told(functions, fuel))
        if fuel < 10000:
            need = room(functions, fuel)
            self.assertEqual(run_machine(functions, need, fuel, 0), told(functions, fuel))
            if need:
                self.assertEqual(run_machine(functions, need - 1, fuel, 0)[0], FULL)
        return result

    def test_what_does_not_exist(self):
        for program in ((main(("drop",)),), (main(ONE),), (main(("slot", 1)),), (main(("captured", 0)),), (main(("closure", 1)),), (main(("end",)),)):
            self.assertEqual(run_machine(program, 100, 100, 0), (("stuck", "broken"), ()))


class Ends(unittest.TestCase):
    def test_a_new_machine(self):
        machine = Machine((main(ONE, RETURN),), 0)
        self.assertEqual((machine.end(), machine.output(), machine.used(), machine.frames()), (None, (), 0, 1))
        self.assertIsNone(machine.step())
        self.assertIsNone(machine.collect())
        machine.step()
        self.assertEqual((machine.end(), machine.output(), machine.used(), machine.frames()), (("value", "1"), (), 0, 0))
        for _ in range(3):
            machine.step()
            machine.collect()
        self.assertEqual((machine.end(), machine.frames()), (("value", "1"), 0))

    def test_frames(self):
        inner = function(ONE, RETURN)
        program = (main(("closure", 1), TWO, ("call",), ("drop",), *RAISE_MATCH), inner)
        counts = []
        machine = Machine(program, 100)
        while machine.end() is None:
            counts.append(machine.frames())
            machine.step()
        self.assertEqual(counts, [1, 1, 1, 2, 2, 1, 1, 1, 1])
        self.assertEqual((machine.end(), machine.frames()), (("raised", "Match"), 0))
        for program, end in (((main(ONE, ("raise",)),), ("stuck", "kind")), ((main(("fixed", 0), RETURN),), FULL)):
            machine = stepped(program, 3, 5)
            self.assertEqual((machine.end(), machine.frames()), (end, 0))

    def test_output(self):
        code = (ONE, ("prim", "print"), ("drop",), TWO, ("prim", "print"), RETURN)
        machine = Machine((main(*code),), 0)
        seen = []
        while machine.end() is None:
            machine.step()
            seen.append(machine.output())
        self.assertEqual(seen, [(), (1,), (1,), (1,), (1, 2), (1, 2)])
        self.assertEqual(machine.end(), ("value", "()"))
        stuck = (main(ONE, ("prim", "print"), ("raise",)),)
        self.assertEqual(run_machine(stuck, 10, 10, 0), (("stuck", "kind"), (1,)))

    def test_fuel(self):
        program = (main(ONE, TWO, ("prim", "add"), RETURN),)
        for fuel in range(4):
            self.assertEqual(run_machine(program, 0, fuel, 0), (("fuel",), ()))
        self.assertEqual(run_machine(program, 0, 4, 0), (("value", "3"), ()))
        stuck = (main(ONE, ("raise",)),)
        self.assertEqual([run_machine(stuck, 0, fuel, 1)[0] for fuel in (1, 2)], [("fuel",), ("stuck", "kind")])
        full = (main(ONE, ("wrap", 0, "A"), RETURN),)
        self.assertEqual([run_machine(full, 4, fuel, 0)[0] for fuel in (1, 2)], [("fuel",), FULL])

    def test_the_text_is_cut_at_the_hundredth_part(self):
        tree = ("con", LIST, 0, None)
        for k in range(60):
            tree = ("con", LIST, 1, ("tuple", (("int", k), tree)))
        program = compile_tree(tree)
        end = run_machine(program, 10000, 10000, 0)[0]
        self.assertEqual((end,), told(program, 10000)[:1])
        self.assertTrue(end[1].endswith("Cons (27, Cons " + ".." + ")" * 33), end)

    def test_cyclic_values(self):
        cycle = ("let", "r", prim("ref", ("con", LIST, 0, None)), ("let", "u", prim("assign", ("var", "r"), ("con", LIST, 1, ("tuple", (ONE, ("var", "r"))))), ("var", "r")))
        program = compile_tree(cycle)
        self.assertEqual(run_machine(program, 100, 100, 1), told(program, 100))
        self.assertIn("ref (Cons (1, ref (Cons (1, ", run_machine(program, 100, 100, 1)[0][1])

    def test_references_are_equal_by_their_place(self):
        body = ("tuple", (prim("equal", X, X), prim("equal", X, prim("ref", ONE)), prim("equal", ("tuple", (X, ONE)), ("tuple", (X, ONE)))))
        program = compile_tree(("let", "x", prim("ref", ONE), body))
        for every in range(4):
            self.assertEqual(run_machine(program, 100, 100, every), (("value", "(True, False, True)"), ()))

    def test_every_instruction_can_be_stuck(self):
        program = compile_tree(ONE)
        self.assertEqual(run_machine(program, 0, 10, 0), (("value", "1"), ()))
        wrong = {("part", 0): (ONE,), ("field", "a"): (ONE,), ("argument",): (("con", 0, "A"),), ("raise",): (ONE,), ("call",): (ONE, ONE), ("tail",): (ONE, ONE)}
        more = [("part", 3), ("field", "b"), ("argument",), ("raise",), ("prim", "neg"), ("prim", "fetch")]
        for instruction, operands in wrong.items():
            program = (main(*operands, instruction, *[RETURN] * (instruction[0] not in ("raise", "tail"))),)
            self.assertIsNone(check(program))
            self.assertEqual(run_machine(program, 100, 100, 0), (("stuck", "kind"), ()))
        values = [(("tuple", 0),), (ONE, TWO, ("tuple", 2)), (("record", ()),), (ONE, ("record", ("a",))), (("fixed", 0),), (("fixed", 0), ("packet", False)), (("sibling", 0),), (ONE, ("prim", "ref"))]
        for instruction in more:
            for operands in values:
                program = (main(*operands, instruction, RETURN),)
                self.assertEqual(run_machine(program, 100, 100, 0), told(program, 100), program)


class Collections(unittest.TestCase):
    def test_the_machine_ends_as_the_runner_does(self):
        ends = {}
        for seed, tree in enumerate(plain_trees(160, 5)):
            chance = random.Random(seed)
            program = compile_tree(tree)
            for fuel in (100000, chance.randrange(200)):
                expected = told(program, fuel)
                need = room(program, fuel)
                ends[expected[0][0]] = ends.get(expected[0][0], 0) + 1
                for every in (0, 1, 2, 5):
                    for cells in (need, need + 1, need + chance.randrange(100)):
                        self.assertEqual(run_machine(program, cells, fuel, every), expected)
                    if need:
                        end, output = run_machine(program, chance.randrange(need), fuel, every)
                        self.assertEqual((end, output), (FULL, expected[1][:len(output)]))
        self.assertGreater(min(ends.values()), 8, ends)

    def test_programs_that_are_accepted_run_as_with_the_runner(self):
        chance = random.Random(9)
        kinds = {}
        for tree in plain_trees(150, 4):
            program = compile_tree(tree)
            for _ in range(10):
                program = mutated(chance, program)
                if check(program) is not None:
                    program = compile_tree(tree)
                    continue
                expected = told(program, 1000)
                kinds[expected[0]] = kinds.get(expected[0], 0) + 1
                self.assertEqual(run_machine(program, 100000, 1000, chance.choice([0, 1, 3])), expected)
        self.assertGreater(kinds["stuck", "kind"], 30)

    def test_a_collection_at_any_time_changes_nothing(self):
        for seed, tree in enumerate(plain_trees(100, 5)):
            chance = random.Random(seed)
            program = compile_tree(tree)
            first, second = Machine(program, 100000), Machine(program, 100000)
            while first.end() is None:
                if chance.random() < 0.3:
                    roots = [word for frame in second.calls for word in (frame.captured, *frame.slots, *frame.operands)]
                    words = list(second.heap.words)
                    second.collect()
                    moved = [word for frame in second.calls for word in (frame.captured, *frame.slots, *frame.operands)]
                    self.assertEqual(graph(second.heap.words, moved), graph(words, roots))
                    self.assertEqual(second.used(), reachable(words, roots))
                first.step()
                second.step()
                self.assertEqual((second.end(), second.output(), second.frames()), (first.end(), first.output(), first.frames()))
                self.assertLessEqual(second.used(), first.used())

    def test_the_words_in_use_are_those_that_can_be_reached(self):
        code = (ONE, TWO, ("tuple", 2), ("drop",), ONE, ("prim", "ref"), ("store", 0), ("slot", 0), RETURN)
        machine = stepped((main(*code),), 100, 7)
        self.assertEqual(machine.used(), 11)
        machine.collect()
        self.assertEqual(machine.used(), 5)
        machine.step()
        machine.step()
        self.assertEqual((machine.used(), machine.end()), (5, ("value", "ref 1")))

    def test_a_slot_names_its_block_until_it_is_stored_into_again(self):
        code = (ONE, ("prim", "ref"), ("store", 0), ONE, ("store", 0), RETURN)
        machine = stepped((main(*code[:-1], ONE, RETURN),), 100, 4)
        machine.collect()
        self.assertEqual(machine.used(), 5)
        machine.step()
        machine.collect()
        self.assertEqual(machine.used(), 0)

    def test_the_closure_of_a_frame_is_a_root(self):
        body = (ONE, ("prim", "ref"), ("drop",), ("captured", 0), ("prim", "fetch"), RETURN)
        program = (main(("int", 7), ("prim", "ref"), ("closure", 1), ONE, ("call",), RETURN), function(*body, captured=1))
        machine = stepped(program, 100, 5)
        machine.collect()
        self.assertEqual(machine.used(), 10)
        self.assertEqual(run_machine(program, 15, 100, 1), (("value", "7"), ()))
        self.assertEqual(run_machine(program, 14, 100, 0), (FULL, ()))
        self.assertEqual(room(program, 100), 15)

    def test_the_operands_of_the_instruction_are_roots(self):
        # The reference is an operand of the `tuple` that makes the block.
        code = (ONE, ("prim", "ref"), TWO, ("tuple", 2), ("part", 0), ("prim", "fetch"), RETURN)
        self.assertEqual(room((main(*code),), 100), 11)
        self.assertEqual(run_machine((main(*code),), 11, 100, 1), (("value", "1"), ()))
        self.assertEqual(run_machine((main(*code),), 10, 100, 1), (FULL, ()))

    def test_when_collections_are_made(self):
        """Also where nothing else can be told of it: a collection leaves only the words that can be reached."""
        program = (main(*[step for _ in range(6) for step in (ONE, ("prim", "ref"), ("drop",))], ONE, RETURN),)
        collected = []

        class Counted(Machine):
            def collect(self):
                collected.append(self.used())
                Machine.collect(self)

        for every, expected in ((0, []), (1, [0] + [0, 5, 5] * 6 + [0]), (5, [5, 10, 10, 10]), (20, [30]), (21, [])):
            collected.clear()
            with mock.patch.object(engine, "Machine", Counted):
                run_machine(program, 1000, 100, every)
            self.assertEqual(collected, expected, every)

    def test_a_collection_makes_room(self):
        code = (*[step for _ in range(9) for step in (ONE, ("prim", "ref"), ("drop",))], TWO, RETURN)
        self.assertEqual(run_machine((main(*code),), 5, 100, 0), (("value", "2"), ()))
        self.assertEqual(run_machine((main(*code),), 4, 100, 0), (FULL, ()))
        machine = stepped((main(*code),), 12, 8)
        self.assertEqual(machine.used(), 5)


class Room(unittest.TestCase):
    def test_room_is_what_can_be_reached_and_the_new_block(self):
        for tree in plain_trees(120, 5):
            program = compile_tree(tree)
            machine = Machine(program, 100000)
            most = 0
            while machine.end() is None:
                machine.collect()
                before = machine.used()
                machine.step()
                if machine.used() > before:
                    most = max(most, machine.used())
            self.assertEqual(room(program, 100000), most)

    def test_more_cells_are_never_full_earlier(self):
        for tree in plain_trees(25, 5, start=500):
            program = compile_tree(tree)
            need = room(program, 100000)
            last = -1
            for cells in range(need + 2):
                machine, steps = Machine(program, cells), 0
                while machine.end() is None:
                    machine.step()
                    steps += 1
                self.assertEqual(machine.end() == FULL, cells < need)
                self.assertGreaterEqual(steps, last)
                last = steps

    def test_room_depends_on_the_fuel(self):
        program = (main(ONE, ("prim", "ref"), TWO, ("prim", "ref"), ("tuple", 2), RETURN),)
        self.assertEqual([room(program, fuel) for fuel in range(7)], [0, 0, 5, 5, 10, 16, 16])
        self.assertEqual(room((main(ONE, RETURN),), 100), 0)

    def test_room_has_no_upper_bound(self):
        more = X
        for _ in range(100):
            more = ("con", LIST, 1, more)
        program = compile_tree(("rec", (("f", "x", call("f", more)),), call("f", ONE)))
        needs = [room(program, fuel) for fuel in (100, 1000, 22000)]
        self.assertEqual(needs, sorted(needs))
        self.assertGreater(needs[2], 100000)
        self.assertEqual(run_machine(program, needs[2], 22000, 0)[0], ("fuel",))
        self.assertEqual(run_machine(program, needs[2] - 1, 22000, 0)[0], FULL)


class Loops(unittest.TestCase):
    def test_a_loop_of_tail_calls_needs_no_room(self):
        bodies = [
            call("f", prim("add", X, ONE)), call("f", ("con", LIST, 1, ONE)), ("let", "y", ("tuple", (X, ONE)), call("f", ("con", LIST, 1, ("var", "z")))),
            ("match", ("con", BOOL, 1, None), ((("con", BOOL, 0, None), X), (("any",), ("let", "y", prim("ref", ONE), call("f", ("var", "z"))))), "Match"),
            ("handle", prim("div", X, ("int", 0)), ((("any",), call("f", ONE)),)),
            ("rec", (("g", "x", call("f", X)),), call("g", ONE)),
        ]
        for body in bodies:
            tree = ("let", "z", ("tuple", (ONE, TWO)), loop(body, ONE))
            program = compile_tree(tree)
            self.assertEqual(room(program, 20000), room(program, 200))
            machine = Machine(program, room(program, 200))
            most = 0
            for _ in range(3000):
                machine.step()
                most = max(most, machine.frames())
            self.assertEqual((machine.end(), most <= 2), (None, True))

    def test_other_loops_grow(self):
        program = compile_tree(loop(prim("neg", call("f", prim("add", X, ONE))), ONE))
        machine = stepped(program, 100000, 3000)
        self.assertGreater(machine.frames(), 300)
        self.assertGreater(room(program, 5000), room(program, 500))
