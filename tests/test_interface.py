"""The names and arguments of the interface, and its examples as they stand there."""

import importlib
import inspect
import unittest

from shapewright.errors import BadModule, BadText, NotShaped, NotUnifiable, UnknownName, Weak

INTERFACE = {
    "trees": (
        "is_shape(tree) is_pattern(tree) is_expression(tree) is_declaration(tree) is_module(tree) is_signature(tree) "
        "is_program(tree) children(tree) at_place(tree,place) count_nodes(tree) depth(tree)"
    ),
    "tokens": "split_tokens(text)",
    "reader": "read_program(text) read_expression(text) read_pattern(text) read_shape(text)",
    "printer": (
        "print_program(1) print_expression(1) print_pattern(1) print_shape(1) print_declaration(1) print_module(1) "
        "print_signature(1)"
    ),
    "terms": "is_shape(value,arities) size(shape) depth(shape) variables(shape) substitute(shape,mapping)",
    "unify": "unifies(mapping,equations) unify(equations)",
    "schemes": (
        "close(shape,fixed) instantiate(scheme,shapes) match_instance(scheme,shape) at_least_as_general(scheme,other)"
    ),
    "context": (
        "lookup(entries,space,path) constructor_scheme(entry) free_variables(entries) settle(entries,mapping)"
    ),
    "variants": "elaborate(context,names,surface) elaborate_scheme(context,scheme) declare(context,declaration)",
    "judge": (
        "right_pattern(context,pattern,derivation) right_expression(context,expression,derivation) "
        "right_declaration(context,declaration,derivation) is_expansive(expression)"
    ),
    "names": "check_names(context,phrase)",
    "infer": "infer_expression(context,expression,*first) infer_declaration(context,declaration,*first)",
    "plain": (
        "is_plain(tree,names) is_pattern(tree,names) pattern_variables(pattern) free_variables(tree) size(tree)"
    ),
    "matrix": (
        "fits(pattern,value,numbers) incompatible(first,second) below(first,second) missing(rows) example(rows,k)"
    ),
    "choose": "decision_graph(rows) choose(graph,value,numbers)",
    "levels": "tidy(entries) stamps_of(entries) realize(entries,realization)",
    "sigs": "elaborate_signature(context,sexp) home(level,stamp)",
    "matching": "match_level(context,have,want) realizes(have,want,realization)",
    "structures": "module(context,mexp) declare_all(context,decs)",
    "lower": (
        "lower(context,expression) lower_pattern(context,pattern) wrap(lowered,body) record(level) thinned(plain,thin)"
    ),
    "values": "wrap(n) equal(first,second) operate(name,operands,store) show(value,store,limit)",
    "steps": "start(tree) step(state) end(state) run(tree,fuel)",
    "stuck": "stuck_word(state) match_row(pattern,value,environment)",
    "instructions": "operands(name) is_instruction(value)",
    "checker": "check(program)",
    "compiler": "compile_tree(tree)",
    "runner": "run_program(program,fuel)",
    "collector": "reachable(words,roots) collect(words,roots)",
    "engine": "run_machine(program,cells,fuel,every) room(program,fuel)",
    "report": "shape_text(names,shape) report(entries,names)",
    "agreement": "agrees(entries,shape,value,store,depth) agrees_with_level(entries,level,value,store,depth)",
    "whole": "check_program(program) prepare(plain) execute(plain,cells,fuel,every) run_text(text,cells,fuel)",
}
# The classes with their methods; the arguments of a class are those of its `__init__`.
CLASSES = {
    "heap.Heap(cells)": "fits(n) make(kind,a,b,fields) header(word) field(word,i) store_field(word,i,value)",
    "engine.Machine(program,cells)": "step() collect() end() output() used() frames()",
    "session.Session()": "enter(program,fuel) weak_names() context() output() lines()",
}


class Interface(unittest.TestCase):
    def test_every_function_is_defined_in_its_file_with_its_arguments(self):
        for name, functions in INTERFACE.items():
            module = importlib.import_module(f"shapewright.{name}")
            for row in functions.split():
                word, arguments = row[:-1].split("(")
                function = getattr(module, word)
                self.assertEqual(function.__module__, module.__name__, row)
                parameters = inspect.signature(function).parameters.values()
                names = ["*" * (parameter.kind == parameter.KEYWORD_ONLY) + parameter.name for parameter in parameters]
                if arguments.isdigit():
                    self.assertEqual(len(names), int(arguments), row)
                else:
                    self.assertEqual(names, arguments.split(","), row)


    def test_every_class_defines_its_methods_with_their_arguments(self):
        for row, methods in CLASSES.items():
            path, arguments = row[:-1].split("(")
            name, word = path.split(".")
            module = importlib.import_module(f"shapewright.{name}")
            kind = getattr(module, word)
            self.assertEqual(kind.__module__, module.__name__, row)
            self.assertEqual(list(inspect.signature(kind).parameters), arguments.split(",") if arguments else [], row)
            for method in methods.split():
                told, arguments = method[:-1].split("(")
                self.assertIn(told, vars(kind), row)
                parameters = list(inspect.signature(vars(kind)[told]).parameters)
                self.assertEqual(parameters, ["self", *(arguments.split(",") if arguments else [])], (row, method))


class Examples(unittest.TestCase):
    def test_reader(self):
        from shapewright.reader import read_expression, read_shape

        self.assertEqual(
            read_expression("f 1 :: nil_list"),
            ("app", ("con", ("Cons",)), ("tuple", (("app", ("var", ("f",)), ("int", 1)), ("var", ("nil_list",))))),
        )
        with self.assertRaises(BadText) as caught:
            read_expression("1 + )")
        self.assertEqual(caught.exception.at, 4)
        self.assertEqual(
            read_shape("('a, int) S.map -> 'a list"),
            ("sarrow", ("sname", ("S", "map"), (("svar", "a"), ("sname", ("int",), ()))), ("sname", ("list",), (("svar", "a"),))),
        )

    def test_printer(self):
        from shapewright.printer import print_expression

        call = ("app", ("var", ("+",)), ("tuple", (("var", ("x",)), ("int", -1))))
        tree = ("app", ("fn", ((("pvar", "x"), call),)), ("int", 2))
        self.assertEqual(print_expression(tree), "(fn x => x + ~1) 2")

    def test_constants(self):
        from shapewright import terms

        self.assertEqual((terms.FREE, terms.MAX_SIZE, terms.MAX_DEPTH), (1000000, 2000, 100))
        self.assertEqual(terms.ARITIES, (0, 0, 0, 1, 0, 1, 1, 0))
        shapes = (terms.INT, terms.UNIT, terms.EXN, terms.BOOL)
        self.assertEqual(shapes, (("c", 0, ()), ("c", 1, ()), ("c", 2, ()), ("c", 4, ())))

    def test_unify(self):
        from shapewright.unify import unify

        x, y = ("v", 1000000), ("v", 1000001)
        self.assertEqual(
            unify([(("f", x, y), ("f", ("c", 0, ()), ("t", (x, x))))]),
            {1000000: ("c", 0, ()), 1000001: ("t", (("c", 0, ()), ("c", 0, ())))},
        )
        with self.assertRaises(NotUnifiable):
            unify([(x, ("t", (x, y)))])

    def test_schemes(self):
        from shapewright.schemes import close, match_instance

        self.assertEqual(
            close(("f", ("v", 1000007), ("f", ("v", 1000003), ("v", 1000007))), (1000003,)),
            (1, ("f", ("v", 0), ("f", ("v", 1000003), ("v", 0)))),
        )
        self.assertIsNone(match_instance((1, ("f", ("v", 0), ("v", 0))), ("f", ("c", 0, ()), ("c", 1, ()))))

    def test_judge(self):
        from shapewright.judge import right_declaration, right_expression
        from shapewright.terms import ARITIES

        a, I, U = ("v", 1000000), ("c", 0, ()), ("c", 1, ())
        identity = ("fn", ((("pvar", "x"), ("var", ("x",))),))
        d = ("fn", ("f", a, a), ((("pvar", a), ("var", a, ())),))
        self.assertIs(right_expression(((), ARITIES), identity, d), True)
        result = right_declaration(((), ARITIES), ("val", ("pvar", "i"), identity), ("val", ("pvar", ("f", a, a)), d))
        self.assertEqual(result, ((("val", "i", (1, ("f", ("v", 0), ("v", 0)))),), (0, 0, 0, 1, 0, 1, 1, 0)))
        pair = ("tuple", (("app", ("var", ("i",)), ("int", 1)), ("app", ("var", ("i",)), ("unit",))))
        one = ("app", I, ("var", ("f", I, I), (I,)), ("int", I))
        two = ("app", U, ("var", ("f", U, U), (U,)), ("unit", U))
        context = ((("val", "i", (1, ("f", ("v", 0), ("v", 0)))),), ARITIES)
        self.assertIs(right_expression(context, pair, ("tuple", ("t", (I, U)), (one, two))), True)

    def test_infer(self):
        from shapewright.infer import infer_declaration, infer_expression
        from shapewright.reader import read_program
        from shapewright.schemes import close
        from shapewright.terms import ARITIES, FREE

        x = ("var", ("x",))
        context = ((), ARITIES)
        shape, settled, derivation = infer_expression(context, ("fn", ((("pvar", "x"), ("tuple", (x, x))),)))
        self.assertEqual(close(shape, ()), (1, ("f", ("v", 0), ("t", (("v", 0), ("v", 0))))))
        self.assertEqual((settled, derivation[0]), ({}, "fn"))
        with self.assertRaises(NotShaped):
            infer_expression(context, ("fn", ((("pvar", "x"), ("app", x, x)),)))
        with self.assertRaises(UnknownName):
            infer_expression(context, ("fn", ((("pvar", "x"), ("var", ("y",))),)))
        ref = ("val", "ref", (1, ("f", ("v", 0), ("c", 3, (("v", 0),)))))
        identity = ("val", "i", (1, ("f", ("v", 0), ("v", 0))))
        entries, _, settled, _ = infer_declaration(((ref, identity), ARITIES), read_program("val r = ref i")[0])
        a = entries[0][2][1][2][0][1]
        self.assertEqual((entries, settled), ((("val", "r", (0, ("c", 3, (("f", a, a),)))),), {}))
        self.assertGreaterEqual(a[1], FREE)
        context = ((("shape", "int", 0, ("c", 0, ())),), ARITIES)
        entries = infer_declaration(context, read_program("rec f : all 'a . 'a -> int = fn x => f (x, x)")[0])[0]
        self.assertEqual(entries, (("val", "f", (1, ("f", ("v", 0), ("c", 0, ())))),))
        with self.assertRaises(NotShaped):
            infer_declaration(context, read_program("rec f = fn x => f (x, x)")[0])

    def test_matrix(self):
        from shapewright.matrix import example, missing

        booleans = (("False", False), ("True", False))
        self.assertIsNone(missing([("con", booleans, 0, None), ("con", booleans, 1, None)]))
        self.assertIsNone(example([("any",), ("int", 4)], 1))

    def test_structures(self):
        from shapewright.reader import read_program
        from shapewright.sigs import elaborate_signature
        from shapewright.matching import match_level
        from shapewright.structures import declare_all, module
        from shapewright.terms import ARITIES

        n = ("v", 0)
        entries = [("shape", "int", 0, ("c", 0, ())), ("shape", "list", 1, ("c", 5, (n,)))]
        entries.append(("con", "Nil", 1, None, ("c", 5, (n,)), 0, (("Nil", False), ("Cons", True))))
        context = (tuple(entries), ARITIES)
        outside = declare_all(context, read_program("variant q = Q of int list"))[1]
        sealed = "struct val empty = Q Nil end :> sig shape q val empty : q end"
        with self.assertRaises(BadModule) as caught:
            module(outside, read_program(f"module M = {sealed}")[0][2])
        self.assertEqual((caught.exception.code, caught.exception.path), ("missing", ("q",)))
        tree = read_program(f"module M = {sealed.replace('struct', 'struct variant q = Q of int list')}")[0][2]
        level, after, _ = module(context, tree)
        s = level[0][2][1][1]
        self.assertEqual(level, (("val", "empty", (0, ("c", s, ()))), ("shape", "q", 0, ("c", s, ()))))
        self.assertGreaterEqual(s, len(ARITIES))
        inside, after, _ = module(context, tree[1])
        want, arities = elaborate_signature(after, tree[2])
        self.assertEqual(match_level((after[0], arities), inside, want)[2], ("thin", ("empty",), (), ()))

    def test_checker(self):
        from shapewright.checker import check

        self.assertIsNone(check((("main", 0, 1, (("int", 1), ("return",))),)))
        self.assertEqual(check((("main", 0, 1, (("drop",), ("return",))),)), (0, 0, "depth"))

    def test_whole(self):
        from shapewright.whole import run_text

        text = "val twice = fn f => fn x => f (f x) val n = twice (fn x => x * 3) 5"
        lines = ["val twice : ('a -> 'a) -> 'a -> 'a", "val n : int"]
        self.assertEqual(run_text(text, 1000, 10000), (lines, ("value", "{val n = 45, val twice = fn}"), ()))
        with self.assertRaises(Weak):
            run_text("val r = ref Nil", 1000, 10000)

    def test_session(self):
        from shapewright.reader import read_program
        from shapewright.session import Session

        s = Session()
        first = s.enter(read_program("val r = ref Nil"), 1000)
        self.assertEqual(first, (["val r : '_1 list ref"], ("value", "{val r = ref Nil}")))
        second = s.enter(read_program("val u = r := 7 :: Nil val v = !r"), 1000)
        self.assertEqual(second, (["val u : unit", "val v : int list"], ("value", "{val u = (), val v = Cons (7, Nil)}")))

    def test_values(self):
        from shapewright.values import show

        self.assertEqual(show(("con", 1, "Some", ("int", -3)), (), 20), "Some ~3")
