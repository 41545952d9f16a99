"""The initial basis: points 10.1 to 10.3."""

import unittest

from shapewright.basis import BASIS, BASIS_LOWERED
from shapewright.lower import wrap
from shapewright.plain import is_plain
from shapewright.reader import read_program
from shapewright.steps import run
from shapewright.terms import ARITIES, is_shape
from shapewright.values import show
from shapewright.whole import run_text

INT, UNIT, EXN, BOOL, ORDER = [("c", stamp, ()) for stamp in (0, 1, 2, 4, 7)]
V = ("v", 0)
REF, LIST, OPTION = [("c", stamp, (V,)) for stamp in (3, 5, 6)]


def function(*shapes):
    return ("f", shapes[0] if len(shapes) == 2 else ("t", shapes[:-1]), shapes[-1])


class Context(unittest.TestCase):
    def test_the_entries_in_their_order(self):
        families = {
            "bool": (("False", False), ("True", False)), "list": (("Nil", False), ("Cons", True)), "option": (("None", False), ("Some", True)),
            "order": (("Less", False), ("Equal", False), ("Greater", False)),
        }
        results = {"bool": (0, BOOL), "list": (1, LIST), "option": (1, OPTION), "order": (0, ORDER)}
        arguments = {"Cons": ("t", (V, LIST)), "Some": V}
        shapes = [("int", 0, INT), ("unit", 0, UNIT), ("exn", 0, EXN), ("ref", 1, REF), ("bool", 0, BOOL), ("list", 1, LIST), ("option", 1, OPTION), ("order", 0, ORDER)]
        expected = [("shape", *row) for row in shapes]
        for name, family in families.items():
            count, result = results[name]
            expected += [("con", word, count, arguments.get(word), result, index, family) for index, (word, _) in enumerate(family)]
        expected += [("exn", name, None) for name in ("Match", "Bind", "Div", "Equality")]
        values = [(("+", "-", "*", "div", "mod"), 0, function(INT, INT, INT)), (("<", "<=", ">", ">="), 0, function(INT, INT, BOOL)), (("=", "<>"), 1, function(V, V, BOOL)),
                  (("~",), 0, function(INT, INT)), (("ref",), 1, function(V, REF)), (("!",), 1, function(REF, V)), ((":=",), 1, function(REF, V, UNIT)), (("print",), 0, function(INT, UNIT)),
                  (("not",), 0, function(BOOL, BOOL)), (("@",), 1, function(LIST, LIST, LIST))]
        expected += [("val", name, (count, shape)) for names, count, shape in values for name in names]
        self.assertEqual(BASIS, (tuple(expected), ARITIES))
        self.assertTrue(all(is_shape(entry[2][1], ARITIES) for entry in BASIS[0] if entry[0] == "val"))


class Values(unittest.TestCase):
    def ends(self, text, end, output=()):
        """The value of `it`, or what is raised, by the meaning and by the machine."""
        lines, told, printed = run_text(f"val it = {text}", 2000, 10000)
        self.assertEqual((told, printed), (end, output), text)

    def gives(self, text, value, output=()):
        self.ends(text, ("value", f"{{val it = {value}}}"), output)

    def test_the_lowered_basis(self):
        names = ["exn Match", "exn Bind", "exn Div", "exn Equality", *[entry[1] for entry in BASIS[0] if entry[0] == "val"]]
        self.assertIsInstance(BASIS_LOWERED, tuple)
        self.assertEqual([declaration[:2] for declaration in BASIS_LOWERED], [("let", name) for name in names])
        for index, (_, _, tree) in enumerate(BASIS_LOWERED):
            self.assertTrue(is_plain(tree, []))
            if index < 4:
                self.assertEqual(tree, ("fixed", index))
        for name in names:
            tree = wrap(BASIS_LOWERED, ("var", name))
            self.assertTrue(is_plain(tree, []))
            self.assertEqual(run(tree, 100)[0][0], "value")

    def test_arithmetic(self):
        rows = [("7 + 5", "12"), ("7 - 9", "~2"), ("7 * ~6", "~42"), ("~7 div 2", "~4"), ("~7 mod 2", "1"), ("7 mod ~2", "~1"), ("2147483647 + 1", "~2147483648"), ("~ 7", "~7"),
                ("~ ~2147483648", "~2147483648"), ("65536 * 65536", "0")]
        for text, value in rows:
            self.gives(text, value)
        self.ends("1 div 0", ("raised", "Div"))
        self.ends("1 mod 0", ("raised", "Div"))
        self.gives("(1 mod 0) handle Div => 8", "8")

    def test_comparisons(self):
        for first, second in ((1, 2), (2, 2), (3, 2)):
            for sign, holds in (("<", first < second), ("<=", first <= second), (">", first > second), (">=", first >= second), ("=", first == second), ("<>", first != second)):
                self.gives(f"{first} {sign} {second}", str(holds))
        self.gives("not (1 < 2)", "False")
        self.gives("not False", "True")

    def test_equality(self):
        self.gives("(1 :: Nil, True) = (1 :: Nil, True)", "True")
        self.gives("Some 1 <> None", "True")
        for sign in ("=", "<>"):
            self.ends(f"(fn x => x) {sign} (fn x => x)", ("raised", "Equality"))
            self.ends(f"Match {sign} Match", ("raised", "Equality"))
            self.gives(f"(let val r = ref 1 in r {sign} r end, ref 1 {sign} ref 1)", "(True, False)" if sign == "=" else "(False, True)")
        self.gives("(Match = Match) handle Equality => False", "False")

    def test_references_and_output(self):
        self.gives("let val r = ref 3 in (!r, r := 4, !r) end", "(3, (), 4)")
        self.gives("(print 1, print ~2, print 3)", "((), (), ())", (1, -2, 3))

    def test_lists(self):
        self.gives("(1 :: 2 :: Nil) @ (3 :: Nil)", "Cons (1, Cons (2, Cons (3, Nil)))")
        self.gives("Nil @ (3 :: Nil)", "Cons (3, Nil)")
        self.gives("(3 :: Nil) @ Nil", "Cons (3, Nil)")
        self.gives("let val l = Nil @ Nil in (1 :: l, True :: Nil) end", "(Cons (1, Nil), Cons (True, Nil))")
        self.gives("(print 1; 1 :: Nil) @ (print 2; Nil)", "Cons (1, Nil)", (1, 2))

    def test_every_value_can_be_passed_on(self):
        self.gives("(fn f => f (1, 2)) (+)", "3")
        self.gives("(fn f => f (1 :: Nil, Nil)) (@)", "Cons (1, Nil)")
        self.gives("(fn f => f 1) ref", "ref 1")

    def test_names_of_the_basis_may_be_declared_again(self):
        def tells(text, value):
            self.assertEqual(run_text(text, 2000, 10000)[1], ("value", value))

        tells("val (+) = fn (a, b) => a - b val x = 5 + 3", "{val + = fn, val x = 2}")
        tells("variant t = Cons of int * int val x = 1 :: 2", "{val x = Cons (1, 2)}")
        tells("exception Div val x = (1 div 0) handle Div => 1 | _ => 2", "{val x = 2, exn Div = Div}")
        tells("val print = fn x => x + 1 val y = print 4", "{val print = fn, val y = 5}")
        # `if` looks up the names True and False like other names.
        with self.assertRaises(ValueError):
            run_text("variant bool = True | False val x = if 1 < 2 then 3 else 4", 2000, 10000)
        tells("variant b = True | False val x = if True then 3 else 4", "{val x = 3}")
        tells("alias int = bool val x : int = True", "{val x = True}")
        self.assertEqual(len(read_program("alias int = bool")), 1)


class Shown(unittest.TestCase):
    def test_the_values_are_functions(self):
        state = run(wrap(BASIS_LOWERED, ("tuple", (("var", "@"), ("var", "<>")))), 100)
        self.assertEqual(show(state[0][1], (), 10), "(fn, fn)")
