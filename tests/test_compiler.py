"""The compiler: points 8.2, 8.11 and 8.12."""

import copy
import unittest

from plain_trees import BOOL, LIST, plain_trees
from programs import QUEUE, accepted
from deriver import BASIS
from typed import Typed
from shapewright.checker import check
from shapewright.compiler import compile_tree
from shapewright.instructions import is_instruction
from shapewright.lower import lower
from shapewright.plain import is_plain, size
from shapewright.runner import run_program
from shapewright.steps import run
from shapewright.values import show

ONE, TWO = ("int", 1), ("int", 2)
X, Y, F, G = ("var", "x"), ("var", "y"), ("var", "f"), ("var", "g")
UNIT = ("tuple", ())
FORMS = ("int", "var", "fn", "rec", "app", "let", "tuple", "record", "field", "con", "match", "raise", "handle", "exception", "fixed", "packet", "prim")


def prim(name, *parts):
    return ("prim", name, parts)


def call(function, argument):
    return ("app", function, argument)


def expressions(tree):
    """All expressions in a plain expression, itself included."""
    found, waiting = [], [tree]
    while waiting:
        part = waiting.pop()
        found.append(part)
        tag = part[0]
        if tag in ("tuple", "prim"):
            waiting.extend(part[-1])
        elif tag == "record":
            waiting.extend(inner for _, inner in part[1])
        elif tag in ("match", "handle"):
            waiting.extend([part[1], *(row[1] for row in part[2])])
        elif tag == "rec":
            waiting.extend([part[2], *(inner for _, _, inner in part[1])])
        elif tag not in ("int", "var", "exception", "fixed"):
            first = {"fn": 2, "let": 2, "field": 2, "con": 3}.get(tag, 1)
            waiting.extend(inner for inner in part[first:] if inner is not None)
    return found


def tails(tree):
    """The calls in tail position of the bodies of all functions in the tree, the main expression left out."""
    found = []
    waiting = []
    for part in expressions(tree):
        if part[0] == "fn":
            waiting.append(part[2])
        elif part[0] == "rec":
            waiting.extend(body for _, _, body in part[1])
    while waiting:
        part = waiting.pop()
        if part[0] == "app":
            found.append(part)
        elif part[0] in ("let", "rec"):
            waiting.append(part[-1])
        elif part[0] in ("match", "handle"):
            waiting.extend(row[1] for row in part[2])
    return found


class Compiled(unittest.TestCase):
    def compiled(self, tree):
        """The program, after everything that is promised of its form has been looked at."""
        self.assertTrue(is_plain(tree, []), tree)
        kept = copy.deepcopy(tree) if size(tree) < 500 else tree
        program = compile_tree(tree)
        self.assertEqual(kept, tree)
        self.assertIsNone(check(program), tree)
        for name, captured, slots, code in program:
            self.assertIsInstance(name, str)
            self.assertTrue(captured >= 0 and slots >= 1 and isinstance(code, tuple) and code)
            self.assertTrue(all(is_instruction(one) for one in code))
        parts = expressions(tree)
        functions = sum(len(part[1]) if part[0] == "rec" else part[0] == "fn" for part in parts)
        self.assertEqual(len(program), functions + 1)
        count = size(tree)
        code = [one[0] for function in program for one in function[3]]
        self.assertLessEqual(len(code), count * (count + 40) + 10)
        calls = [part for part in parts if part[0] == "app"]
        self.assertEqual(code.count("call") + code.count("tail"), len(calls))
        self.assertEqual(code.count("tail"), len(tails(tree)))
        return program

    def agrees(self, tree, fuel=3000):
        """The program of the tree ends as its meaning does; returns the end of the meaning."""
        program = self.compiled(tree)
        end, state, steps = run(tree, fuel)
        if end[0] == "stuck":
            return end
        if end[0] == "fuel":
            self.assertEqual(run_program(program, fuel)[0], ("fuel",))
            return end
        other, output, store, used = run_program(program, (steps + 1) * (20 * size(tree) + 20))
        self.assertEqual(other[0], end[0], tree)
        self.assertEqual(show(other[1], store, 200), show(end[1], state[4], 200))
        self.assertEqual(output, state[6])
        return end

    def shows(self, text, tree):
        """The written form of what the meaning and the program give."""
        end = self.agrees(tree)
        self.assertEqual(show(end[1], run(tree, 3000)[1][4], 200), text)

    def test_each_form(self):
        self.shows("~7", ("int", -7))
        self.shows("fn", ("fn", "x", X))
        self.shows("1", call(("fn", "x", X), ONE))
        self.shows("(1, 2)", ("let", "x", ONE, ("let", "y", TWO, ("tuple", (X, Y)))))
        self.shows("2", ("let", "x", ONE, ("let", "x", TWO, X)))
        self.shows("()", UNIT)
        self.shows("{b = 1, a = {}}", ("record", (("b", ONE), ("a", ("record", ())))))
        self.shows("2", ("field", "a", ("record", (("b", ONE), ("a", TWO)))))
        self.shows("Cons (1, Nil)", ("con", LIST, 1, ("tuple", (ONE, ("con", LIST, 0, None)))))
        self.shows("(Match, Bind, Div, Equality)", ("tuple", tuple(("fixed", k) for k in range(4))))
        self.shows("(E, E 1)", ("let", "x", ("exception", "E"), ("tuple", (("packet", X, None), ("packet", X, ONE)))))
        self.shows("Div", prim("div", ONE, ("int", 0)))
        self.shows("Match", ("raise", ("packet", ("fixed", 0), None)))
        self.shows("(ref 2, ())", ("let", "x", prim("ref", ONE), ("let", "y", prim("assign", X, TWO), ("tuple", (X, Y)))))

    def test_rows(self):
        def match(subject, *rows, failure="Match"):
            return ("match", subject, rows, failure)

        self.shows("Match", match(ONE, (("int", 2), ONE)))
        self.shows("Bind", match(ONE, (("int", 2), ONE), failure="Bind"))
        self.shows("3", match(ONE, (("int", 2), ONE), (("int", 1), ("int", 3)), (("any",), TWO)))
        pair = ("tuple", (ONE, ("con", LIST, 1, ("tuple", (TWO, ("con", LIST, 0, None))))))
        cons = ("con", LIST, 1, ("as", "y", ("tuple", (("var", "z"), ("con", LIST, 0, None)))))
        self.shows("((1, Cons (2, Nil)), (2, Nil), 2, 1)", match(pair, (("tuple", (("int", 2), cons)), ONE), (("as", "x", ("tuple", (("var", "w"), cons))), ("tuple", (X, Y, ("var", "z"), ("var", "w"))))))
        exceptions = ("let", "x", ("exception", "E"), ("let", "y", ("record", (("e", ("exception", "E")),)), None))
        for which, text in ((X, "1"), (("field", "e", Y), "2"), (("fixed", 0), "3")):
            body = match(("packet", which, None), (("packet", X, None), ONE), (("packet", ("field", "e", Y), None), TWO), (("any",), ("int", 3)))
            self.shows(text, (*exceptions[:3], (*exceptions[3][:3], body)))
        nested = ("record", (("m", ("record", (("n", ("record", (("e", X),))),))),))
        named = ("field", "e", ("field", "n", ("field", "m", Y)))
        self.shows("1", ("let", "x", ("exception", "E"), ("let", "y", nested, match(("packet", X, None), (("packet", named, None), ONE), (("any",), TWO)))))
        self.shows("2", ("let", "x", ("exception", "E"), ("let", "y", nested, match(("packet", ("fixed", 1), None), (("packet", named, None), ONE), (("any",), TWO)))))
        body = match(("packet", X, TWO), (("packet", X, ("int", 1)), ONE), (("packet", X, ("var", "z")), ("var", "z")))
        self.shows("2", ("let", "x", ("exception", "E"), body))

    def test_handlers(self):
        bad = ("raise", ("packet", ("fixed", 1), None))
        self.shows("1", ("handle", ONE, ((("any",), TWO),)))
        self.shows("2", ("handle", bad, ((("any",), TWO),)))
        self.shows("Bind", ("handle", bad, ((("var", "x"), X),)))
        self.shows("Bind", ("let", "e", ("fixed", 0), ("handle", bad, ((("packet", ("var", "e"), None), TWO),))))
        self.shows("3", prim("add", ONE, ("handle", prim("add", TWO, bad), ((("any",), TWO),))))
        inner = ("handle", bad, ((("any",), bad),))
        self.shows("2", ("handle", inner, ((("any",), TWO),)))
        self.shows("(1, 2)", call(("fn", "x", ("handle", ("tuple", (X, bad)), ((("any",), ("tuple", (X, TWO))),))), ONE))

    def test_functions_of_a_group(self):
        even = ("match", X, ((("int", 0), ("con", BOOL, 1, None)), (("any",), call(G, prim("sub", X, ONE)))), "Match")
        odd = ("match", X, ((("int", 0), ("con", BOOL, 0, None)), (("any",), call(F, prim("sub", X, ONE)))), "Match")
        group = ("rec", (("f", "x", even), ("g", "x", odd)), ("tuple", (call(F, ("int", 10)), call(G, ("int", 10)))))
        self.shows("(True, False)", group)
        # The parameter hides the function; the last function is the innermost binding.
        self.shows("1", ("rec", (("f", "f", F),), call(F, ONE)))
        self.shows("(1, fn)", ("let", "y", ONE, ("rec", (("f", "x", ("tuple", (Y, G))), ("g", "z", F)), call(F, TWO))))
        # All functions of a group capture what is free in the whole group, and they are siblings.
        tree = ("let", "y", ONE, ("let", "z", TWO, ("rec", (("f", "x", Y), ("g", "x", ("fn", "w", ("tuple", (F, ("var", "z"), X))))), call(call(G, ONE), TWO))))
        program = self.compiled(tree)
        self.assertEqual([function[1] for function in program if function[0] in ("f", "g")], [2, 2])
        self.assertIn(("sibling", 1), [one for function in program for one in function[3]])
        self.shows("(fn, 2, 1)", tree)

    def test_tail_calls_are_tails(self):
        body = ("match", X, ((("int", 0), call(F, ONE)), (("int", 1), ("let", "y", call(F, ONE), ("handle", call(F, ONE), ((("any",), call(F, TWO)),))))), "Match")
        tree = ("rec", (("f", "x", body),), ONE)
        program = self.compiled(tree)
        words = [one[0] for one in program[1][3]]
        self.assertEqual((words.count("tail"), words.count("call")), (2, 2))

    def test_rows_that_are_never_chosen_are_compiled(self):
        tree = ("match", ONE, ((("var", "x"), X), (("int", 1), call(("fn", "y", Y), TWO))), "Match")
        self.assertEqual(len(self.compiled(tree)), 2)
        self.shows("1", tree)

    def test_random_trees(self):
        ends = {}
        forms = {}
        for tree in plain_trees(700, 5):
            end = self.agrees(tree)
            ends[end[0]] = ends.get(end[0], 0) + 1
            for part in expressions(tree):
                forms[part[0]] = forms.get(part[0], 0) + 1
        self.assertGreater(min(ends.get("value", 0), ends.get("raised", 0)), 100, ends)
        self.assertEqual(set(forms), set(FORMS))
        self.assertGreater(min(forms.values()), 100)

    def test_random_accepted_expressions(self):
        for seed in range(150):
            typed = Typed(seed)
            expression = typed.expression(BASIS, typed.shape(2), 5)[0]
            tree = lower(BASIS, expression)
            for name in ("Match", "Bind", "Div", "Equality"):
                tree = ("let", f"exn {name}", ("fixed", ("Match", "Bind", "Div", "Equality").index(name)), tree)
            for name in ("+", "-", "*", "=", "ref", "!", ":=", "@", "<", "<=", ">", ">=", "div", "mod", "~", "<>", "not", "print"):
                tree = ("let", name, ("fn", "x", UNIT), tree)
            if is_plain(tree, []):
                self.agrees(tree)

    def test_programs_with_modules(self):
        text = QUEUE + " val q = Q.push (1, Q.push (2, Q.empty)) val x = Q.pop q val y = Q.pop (Q.empty) handle Q.Empty => (3, q)"
        self.assertEqual(self.agrees(accepted(text)[2])[0], "value")

    def test_loops(self):
        loop = ("rec", (("f", "x", call(F, prim("add", X, ONE))),), call(F, ONE))
        self.assertEqual(self.agrees(loop), ("fuel",))
        self.assertEqual(self.agrees(("rec", (("f", "x", prim("neg", call(F, X))),), call(F, ONE))), ("fuel",))
        down = ("match", X, ((("int", 0), ("raise", ("packet", ("fixed", 1), X))), (("any",), call(F, prim("sub", X, ONE)))), "Match")
        self.assertEqual(self.agrees(("rec", (("f", "x", down),), call(F, ("int", 100))), 3000)[0], "raised")

    def test_the_number_of_instructions_of_a_deep_pattern(self):
        """A pattern may be far deeper than the steps of the meaning are many."""
        pattern, value = ("int", 1), ONE
        for _ in range(300):
            pattern, value = ("con", LIST, 1, pattern), ("con", LIST, 1, value)
        row = (pattern, ("app", F, X))
        body = ("match", X, ((("con", LIST, 1, ("con", LIST, 0, None)), ONE), row), "Match")
        tree = ("let", "x", value, ("rec", (("f", "y", body),), call(F, ONE)))
        program = self.compiled(tree)
        steps = 3000
        used = run_program(program, 10 ** 6)[3]
        self.assertEqual((run(tree, steps)[0], used), (("fuel",), 10 ** 6))
        once = ("let", "x", value, ("match", X, ((pattern, ONE),), "Match"))
        _, _, steps = run(once, 10000)
        self.assertLessEqual(run_program(compile_tree(once), 10 ** 6)[3], 20 * steps)

    def test_deep_trees(self):
        def nested(step, first=ONE, count=3000):
            tree = first
            for _ in range(count):
                tree = step(tree)
            return tree

        steps = [
            lambda tree: ("let", "x", ONE, tree), lambda tree: ("let", "x", tree, ONE), lambda tree: ("handle", tree, ((("any",), ONE),)),
            lambda tree: ("match", tree, ((("var", "x"), X),), "Match"), lambda tree: ("match", ONE, ((("var", "x"), tree),), "Match"),
            lambda tree: ("tuple", (tree, ONE)), lambda tree: ("con", LIST, 1, tree), lambda tree: call(("fn", "x", X), tree), lambda tree: prim("neg", tree),
            lambda tree: ("field", "a", ("record", (("a", tree),))), lambda tree: ("rec", (("f", "x", X),), tree),
        ]
        for step in steps:
            tree = nested(step)
            program = compile_tree(tree)
            self.assertIsNone(check(program))
            self.assertEqual(run_program(program, 10 ** 5)[0][0], "value")
        self.assertIsNone(check(compile_tree(nested(lambda tree: ("fn", "x", tree), X, 400))))
