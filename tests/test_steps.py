"""States and steps: points 7.1, 7.3 and 7.6 to 7.11."""

import copy
import unittest

from shapewright.steps import end, run, start, step
from shapewright.values import show

BOOL = (("False", False), ("True", False))
OPTION = (("None", False), ("Some", True))
ONE, TWO, UNIT = ("int", 1), ("int", 2), ("tuple", ())
X, Y, F = ("var", "x"), ("var", "y"), ("var", "f")
ENV = ("y", TWO, ("x", ONE, None))
FRAME = ("raise",)
STACK = (FRAME, None)
STORE, MADE, OUTPUT = (ONE, UNIT), 9, (5, 6)
ANY = ("any",)
ROWS = ((("int", 7), X), (("var", "z"), ("var", "z")))
PACKET = ("packet", 4, "E", ONE)
FUN = ("fun", "x", X, ENV)


def prim(name, *operands):
    return ("prim", name, operands)


def add(first, second):
    return prim("add", first, second)


class Steps(unittest.TestCase):
    def check(self, before, after):
        """One step, with a stack below and without one; `before` and `after` are mode, subject, environment, frames
        on top, and perhaps store, number of exceptions and output."""
        for below in (STACK, None):
            first, second = [self.state(below, *part) for part in (before, after)]
            kept = copy.deepcopy(first)
            self.assertEqual(step(first), second)
            self.assertEqual(first, kept)
            self.assertIsNone(end(first))

    def state(self, below, mode, subject, environment, frames=(), store=STORE, made=MADE, output=OUTPUT):
        for frame in frames:
            below = (frame, below)
        return (mode, subject, environment, below, store, made, output)

    def evaluates(self, tree, after):
        self.check(("eval", tree, ENV), after)

    def gives(self, tree, value):
        self.evaluates(tree, ("back", value, None))

    def pushes(self, tree, frame, inner, environment=ENV):
        self.evaluates(tree, ("eval", inner, environment, (frame,)))

    def returns(self, frame, value, after):
        self.check(("back", value, None, (frame,)), after)

    def test_the_first_state(self):
        self.assertEqual(start(X), ("eval", X, None, None, (), 4, ()))

    def test_leaves(self):
        self.gives(ONE, ONE)
        for n, name in enumerate(("Match", "Bind", "Div", "Equality")):
            self.gives(("fixed", n), ("exn", n, name))
        self.gives(X, ONE)
        self.gives(Y, TWO)
        self.gives(("fn", "z", Y), ("fun", "z", Y, ENV))
        self.check(("eval", X, ("x", TWO, ENV)), ("back", TWO, None))
        self.gives(UNIT, UNIT)
        self.gives(("record", ()), ("record", ()))
        self.gives(("con", OPTION, 0, None), ("con", 0, "None", None))
        self.check(("eval", ("exception", "E"), ENV), ("back", ("exn", MADE, "E"), None, (), STORE, MADE + 1, OUTPUT))

    def test_groups(self):
        group = (("f", "x", F), ("g", "y", X), ("f2", "f2", Y))
        inner = ("f2", ("fix", group, 2, ENV), ("g", ("fix", group, 1, ENV), ("f", ("fix", group, 0, ENV), ENV)))
        self.evaluates(("rec", group, F), ("eval", F, inner))
        for k, (_, name, body) in enumerate(group):
            self.returns(("call", ("fix", group, k, ENV)), UNIT, ("eval", body, (name, UNIT, inner)))

    def test_what_is_pushed(self):
        self.pushes(("app", F, X), ("argument", X, ENV), F)
        self.pushes(("let", "z", X, Y), ("let", "z", Y, ENV), X)
        self.pushes(("tuple", (X, Y, ONE)), ("items", "tuple", None, (), (Y, ONE), ENV), X)
        self.pushes(("record", (("a", X), ("b", Y))), ("items", "record", ("a", "b"), (), (Y,), ENV), X)
        self.pushes(("record", (("a", X),)), ("items", "record", ("a",), (), (), ENV), X)
        self.pushes(add(X, Y), ("items", "prim", "add", (), (Y,), ENV), X)
        self.pushes(prim("print", X), ("items", "prim", "print", (), (), ENV), X)
        self.pushes(("field", "a", X), ("field", "a"), X)
        self.pushes(("con", OPTION, 1, X), ("con", 1, "Some"), X)
        self.pushes(("match", X, ROWS, "Bind"), ("match", ROWS, "Bind", ENV), X)
        self.pushes(("handle", X, ROWS), ("handle", ROWS, ENV), X)
        self.pushes(("raise", X), ("raise",), X)
        self.pushes(("packet", X, None), ("packet", None, ENV), X)
        self.pushes(("packet", X, Y), ("packet", Y, ENV), X)

    def test_calls(self):
        self.returns(("argument", X, ENV), FUN, ("eval", X, ENV, (("call", FUN),)))
        self.returns(("call", FUN), UNIT, ("eval", X, ("x", UNIT, ENV)))
        self.returns(("call", ("fun", "z", Y, None)), UNIT, ("eval", Y, ("z", UNIT, None)))

    def test_what_is_given_back(self):
        self.returns(("let", "z", Y, ENV), UNIT, ("eval", Y, ("z", UNIT, ENV)))
        self.returns(("items", "tuple", None, (ONE,), (X, Y), ENV), TWO, ("eval", X, ENV, (("items", "tuple", None, (ONE, TWO), (Y,), ENV),)))
        self.returns(("items", "record", ("a", "b"), (), (X,), ENV), TWO, ("eval", X, ENV, (("items", "record", ("a", "b"), (TWO,), (), ENV),)))
        self.returns(("items", "prim", "add", (), (X,), ENV), TWO, ("eval", X, ENV, (("items", "prim", "add", (TWO,), (), ENV),)))
        self.returns(("items", "tuple", None, (ONE, TWO), (), ENV), UNIT, ("back", ("tuple", (ONE, TWO, UNIT)), None))
        self.returns(("items", "record", ("a", "b"), (ONE,), (), ENV), TWO, ("back", ("record", (("a", ONE), ("b", TWO))), None))
        self.returns(("field", "b"), ("record", (("a", ONE), ("b", TWO))), ("back", TWO, None))
        self.returns(("con", 1, "Some"), UNIT, ("back", ("con", 1, "Some", UNIT), None))
        self.returns(("handle", ROWS, ENV), UNIT, ("back", UNIT, None))
        self.returns(("handle", ROWS, ENV), PACKET, ("back", PACKET, None))
        self.returns(("raise",), PACKET, ("throw", PACKET, None))
        self.returns(("packet", None, ENV), ("exn", 5, "E"), ("back", ("packet", 5, "E", None), None))
        self.returns(("packet", X, ENV), ("exn", 5, "E"), ("eval", X, ENV, (("made", ("exn", 5, "E")),)))
        self.returns(("made", ("exn", 5, "E")), TWO, ("back", ("packet", 5, "E", TWO), None))

    def test_operations(self):
        def frame(name, *done):
            return ("items", "prim", name, done, (), ENV)

        self.returns(frame("sub", ("int", 5)), TWO, ("back", ("int", 3), None))
        self.returns(frame("less", ONE), TWO, ("back", ("con", 1, "True", None), None))
        self.returns(frame("div", ONE), ("int", 0), ("throw", ("packet", 2, "Div", None), None))
        self.returns(frame("equal", FUN), FUN, ("throw", ("packet", 3, "Equality", None), None))
        self.returns(frame("ref"), TWO, ("back", ("ref", 2), None, (), (*STORE, TWO)))
        self.returns(frame("fetch"), ("ref", 1), ("back", UNIT, None))
        self.returns(frame("assign", ("ref", 0)), TWO, ("back", UNIT, None, (), (TWO, UNIT)))
        self.returns(frame("print"), TWO, ("back", UNIT, None, (), STORE, MADE, (5, 6, 2)))
        self.returns(frame("neg"), TWO, ("back", ("int", -2), None))

    def test_matches(self):
        frame = ("match", ROWS, "Match", ENV)
        self.returns(frame, ("int", 7), ("eval", X, ENV))
        self.returns(frame, ("int", 8), ("eval", ("var", "z"), ("z", ("int", 8), ENV)))
        rows = ((("tuple", (("as", "a", ("var", "b")), ("var", "c"))), ONE),)
        self.returns(("match", rows, "Bind", ENV), ("tuple", (ONE, TWO)), ("eval", ONE, ("c", TWO, ("b", ONE, ("a", ONE, ENV)))))
        only = ((("int", 7), X),)
        self.returns(("match", only, "Match", ENV), ONE, ("throw", ("packet", 0, "Match", None), None))
        self.returns(("match", only, "Bind", ENV), ONE, ("throw", ("packet", 1, "Bind", None), None))
        inner = ("e", ("exn", 4, "E"), ("m", ("record", (("exn G", ("exn", 5, "G")),)), ENV))
        rows = ((("packet", ("field", "exn G", ("var", "m")), ANY), X), (("packet", ("var", "e"), ("var", "a")), Y))
        self.returns(("match", rows, "Match", inner), PACKET, ("eval", Y, ("a", ONE, inner)))
        self.returns(("match", rows, "Match", inner), ("packet", 5, "G", UNIT), ("eval", X, inner))
        self.returns(("match", rows, "Match", inner), ("packet", 6, "H", None), ("throw", ("packet", 0, "Match", None), None))

    def test_packets_that_are_raised(self):
        for frame in (("argument", X, ENV), ("call", FUN), ("let", "x", X, ENV), ("items", "tuple", None, (), (), ENV), ("field", "a"), ("con", 1, "Some"), ("match", ROWS, "Match", ENV), ("raise",), ("packet", X, ENV), ("made", ("exn", 4, "E"))):
            self.check(("throw", PACKET, None, (frame,)), ("throw", PACKET, None))
        inner = ("e", ("exn", 4, "E"), ("d", ("exn", 5, "D"), ENV))
        rows = ((("packet", ("var", "d"), None), X), (("packet", ("var", "e"), ("var", "a")), Y), (ANY, F))
        self.check(("throw", PACKET, None, (("handle", rows, inner),)), ("eval", Y, ("a", ONE, inner)))
        self.check(("throw", ("packet", 5, "D", None), None, (("handle", rows, inner),)), ("eval", X, inner))
        self.check(("throw", ("packet", 8, "Z", None), None, (("handle", rows, inner),)), ("eval", F, inner))
        self.check(("throw", ("packet", 8, "Z", None), None, (("handle", rows[:2], inner),)), ("throw", ("packet", 8, "Z", None), None))

    def test_ends(self):
        for value in (ONE, FUN, PACKET):
            state = ("back", value, None, None, STORE, MADE, OUTPUT)
            self.assertEqual(end(state), ("value", value))
            self.assertEqual(step(state), state)
        state = ("throw", PACKET, None, None, STORE, MADE, OUTPUT)
        self.assertEqual((end(state), step(state)), (("raised", PACKET), state))
        state = ("eval", ("var", "q"), ENV, STACK, STORE, MADE, OUTPUT)
        self.assertEqual((end(state), step(state)), (("stuck", "variable"), state))
        self.assertIsNone(end(("eval", X, ENV, None, STORE, MADE, OUTPUT)))
        self.assertIsNone(end(("back", ONE, None, (("let", "x", X, None), None), STORE, MADE, OUTPUT)))
        self.assertIsNone(end(("throw", PACKET, None, STACK, STORE, MADE, OUTPUT)))


def fn(name, body):
    return ("fn", name, body)


def app(function, *arguments):
    for argument in arguments:
        function = ("app", function, argument)
    return function


def sequence(*trees):
    tree = trees[-1]
    for first in trees[-2::-1]:
        tree = ("let", "_", first, tree)
    return tree


def condition(test, yes, no):
    return ("match", test, ((("con", BOOL, 1, None), yes), (("con", BOOL, 0, None), no)), "Match")


def loop(count, step_body):
    """A loop of tail calls that counts down."""
    body = condition(prim("leq", ("var", "n"), ("int", 0)), ONE, step_body)
    return ("rec", (("loop", "n", body),), app(("var", "loop"), ("int", count)))


def height(state):
    count, stack = 0, state[3]
    while stack is not None:
        count, stack = count + 1, stack[1]
    return count


AGAIN = app(("var", "loop"), prim("sub", ("var", "n"), ONE))
NEW = ("let", "e", ("exception", "E"), ("packet", ("var", "e"), None))
PROGRAMS = [
    (ONE, "value", "1"), (app(fn("x", add(X, X)), ("int", 4)), "value", "8"), (app(fn("x", fn("y", prim("sub", X, Y))), ("int", 9), TWO), "value", "7"), (("let", "x", ONE, app(("let", "f", fn("y", X), ("let", "x", TWO, F)), UNIT)), "value", "1"),
    (loop(50, AGAIN), "value", "1"), (("rec", (("f", "n", condition(prim("leq", ("var", "n"), ("int", 0)), ("con", BOOL, 1, None), app(("var", "g"), prim("sub", ("var", "n"), ONE)))), ("g", "n", condition(prim("leq", ("var", "n"), ("int", 0)), ("con", BOOL, 0, None), app(F, prim("sub", ("var", "n"), ONE))))), app(F, ("int", 7))), "value", "False"),
    (("rec", (("f", "f", F),), app(F, ONE)), "value", "1"), (("rec", (("f", "x", X), ("g", "x", app(F, add(X, ONE)))), app(("var", "g"), ONE)), "value", "2"), (("tuple", (ONE, ("con", OPTION, 1, TWO))), "value", "(1, Some 2)"), (("field", "b", ("record", (("a", ONE), ("b", TWO)))), "value", "2"),
    (("raise", NEW), "raised", "E"), (("handle", ("raise", NEW), ((("var", "z"), ("tuple", (ONE, ("var", "z")))),)), "value", "(1, E)"), (("handle", prim("div", ONE, ("int", 0)), ((("packet", ("var", "d"), None), TWO),)), "stuck", "variable"),
    (("let", "d", ("fixed", 2), ("handle", add(ONE, prim("div", ONE, ("int", 0))), ((("packet", ("var", "d"), None), TWO),))), "value", "2"), (("let", "d", ("fixed", 1), ("handle", prim("div", ONE, ("int", 0)), ((("packet", ("var", "d"), None), TWO),))), "raised", "Div"),
    (("let", "e", ("exception", "E"), ("handle", ("handle", ("raise", ("packet", ("var", "e"), ONE)), ((("packet", ("var", "e"), ("int", 2)), TWO),)), ((("packet", ("var", "e"), ("var", "n")), add(("var", "n"), ("int", 5))),))), "value", "6"),
    (("match", ("int", 3), ((("int", 4), ONE),), "Match"), "raised", "Match"), (("match", ("int", 3), ((("int", 4), ONE),), "Bind"), "raised", "Bind"), (prim("equal", fn("x", X), ONE), "raised", "Equality"), (prim("fetch", prim("ref", ("int", 8))), "value", "8"),
    (("let", "r", prim("ref", ONE), sequence(prim("assign", ("var", "r"), add(prim("fetch", ("var", "r")), TWO)), ("tuple", (("var", "r"), prim("fetch", ("var", "r")))))), "value", "(ref 3, 3)"), (("raise", ("packet", ("fixed", 3), None)), "raised", "Equality"),
    (("handle", ("handle", ("raise", NEW), ((("var", "z"), ("raise", ("var", "z"))),)), ((ANY, ONE),)), "value", "1"), (("handle", ONE, ((ANY, TWO),)), "value", "1"),
]


class Runs(unittest.TestCase):
    def test_programs(self):
        for tree, word, text in PROGRAMS:
            last, state, steps = run(tree, 100000)
            self.assertEqual(last[0], word, tree)
            self.assertEqual(last[1] if word == "stuck" else show(last[1], state[4], 200), text, tree)
            self.assertEqual(end(state), last)
            # The same by single steps.
            other = start(tree)
            for _ in range(steps):
                self.assertIsNone(end(other))
                other = step(other)
            self.assertEqual(other, state)
            self.assertEqual(step(other), other)

    def test_fuel(self):
        for tree, _, _ in PROGRAMS:
            last, state, steps = run(tree, 100000)
            self.assertEqual(run(tree, steps), (last, state, steps))
            self.assertEqual(run(tree, steps + 1), (last, state, steps))
            if steps:
                found, before, count = run(tree, steps - 1)
                self.assertEqual((found, count, step(before)), (("fuel",), steps - 1, state))
            found, before, count = run(tree, 0)
            self.assertEqual((before, count), (start(tree), 0))
            self.assertEqual(found, ("fuel",) if steps else last)
        self.assertEqual(run(X, 0), (("stuck", "variable"), start(X), 0))

    def test_the_order_of_evaluation(self):
        def shown(n, value=None):
            return sequence(prim("print", ("int", n)), ("int", n) if value is None else value)

        rows = [
            app(shown(1, fn("x", shown(3, X))), shown(2)), ("tuple", (shown(1), shown(2), shown(3))), ("record", (("b", shown(1)), ("a", shown(2)), ("c", shown(3)))), add(add(shown(1), shown(2)), shown(3)), ("let", "x", shown(1), sequence(shown(2), shown(3))),
            ("match", shown(1), ((("int", 2), shown(9)), (("int", 1), sequence(shown(2), shown(3)))), "Match"), ("let", "d", ("fixed", 2), ("handle", sequence(shown(1), prim("div", shown(2), ("int", 0)), shown(9)), ((("packet", ("var", "d"), None), shown(3)),))),
            sequence(("con", OPTION, 1, shown(1)), ("field", "a", ("record", (("a", shown(2)),))), shown(3)), ("handle", sequence(shown(1), ("raise", ("packet", shown(2, ("fixed", 0)), shown(3))), shown(9)), ((ANY, ONE),)),
            ("rec", (("f", "x", sequence(shown(2), X)),), sequence(shown(1), app(F, ONE), shown(3))), prim("equal", ("tuple", (shown(1), shown(2))), shown(3)),
        ]
        for tree in rows:
            self.assertEqual(run(tree, 10000)[1][6], (1, 2, 3), tree)

    def test_exceptions_are_made_anew(self):
        twice = ("let", "f", fn("u", ("exception", "E")), ("tuple", (app(F, UNIT), app(F, UNIT), ("exception", "D"))))
        last, state, _ = run(twice, 1000)
        self.assertEqual(last, ("value", ("tuple", (("exn", 4, "E"), ("exn", 5, "E"), ("exn", 6, "D")))))
        self.assertEqual(state[5], 7)
        other = ("let", "f", fn("u", ("exception", "E")), ("let", "e", app(F, UNIT), ("handle", ("raise", ("packet", app(F, UNIT), None)), ((("packet", ("var", "e"), None), ONE),))))
        self.assertEqual(run(other, 1000)[0], ("raised", ("packet", 5, "E", None)))

    def test_tail_calls(self):
        bodies = [
            AGAIN, ("let", "m", prim("sub", ("var", "n"), ONE), app(("var", "loop"), ("var", "m"))), ("match", ("tuple", (("var", "n"), ONE)), ((("tuple", (("var", "a"), ("var", "b"))), app(("var", "loop"), prim("sub", ("var", "a"), ("var", "b")))),), "Bind"),
            ("rec", (("inner", "k", app(("var", "loop"), prim("sub", ("var", "k"), ONE))),), app(("var", "inner"), ("var", "n"))), ("handle", ("raise", ("packet", ("fixed", 0), None)), ((ANY, AGAIN),)), app(fn("k", app(("var", "loop"), ("var", "k"))), prim("sub", ("var", "n"), ONE)),
        ]
        for body in bodies:
            heights = []
            for count in (10, 300):
                state, greatest = start(loop(count, body)), 0
                while end(state) is None:
                    state = step(state)
                    greatest = max(greatest, height(state))
                self.assertEqual(end(state), ("value", ONE))
                heights.append(greatest)
            self.assertEqual(heights[0], heights[1])

    def test_a_body_that_is_a_call_begins_no_higher(self):
        state, bodies = start(loop(40, AGAIN)), []
        while end(state) is None:
            after = step(state)
            frame = state[3][0] if state[3] else (None,)
            if state[0] == "back" and frame[0] == "call":
                bodies.append(height(after))
            state = after
        self.assertEqual(len(bodies), 41)
        self.assertEqual(len(set(bodies)), 1)

    def test_long_runs(self):
        last, state, steps = run(loop(3000, AGAIN), 1000000)
        self.assertEqual(last, ("value", ONE))
        self.assertGreater(steps, 30000)
        deep = ("rec", (("f", "n", condition(prim("leq", ("var", "n"), ("int", 0)), ("con", OPTION, 0, None), ("con", OPTION, 1, app(F, prim("sub", ("var", "n"), ONE))))),), app(F, ("int", 5000)))
        last, state, steps = run(deep, 1000000)
        self.assertEqual(show(last[1], state[4], 3), "Some (Some (Some ..))")
        endless = ("rec", (("f", "x", app(F, X)),), app(F, ONE))
        self.assertEqual(run(endless, 5000)[0], ("fuel",))


if __name__ == "__main__":
    unittest.main()
