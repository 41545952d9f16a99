"""Children, places, nodes and depth: 1.4 and 1.5."""

import unittest

from samples import Maker
from shapewright.trees import at_place, children, count_nodes, depth, is_program

A, B, C = ("svar", "a"), ("svar", "b"), ("svar", "c")
P, Q = ("pvar", "p"), ("pvar", "q")
E, D = ("int", 1), ("int", 2)
M, N = ("mpath", ("M",)), ("mpath", ("N",))
G, H = ("gname", "G"), ("gname", "H")
L, K = ("val", P, E), ("alias", (), "t", A)

CHILDREN = [
    (A, ()), (("sname", ("t",), ()), ()), (("sname", ("t",), (A, B, C)), (A, B, C)), (("stuple", (A, B)), (A, B)),
    (("sarrow", A, B), (A, B)),
    (("pany",), ()), (("punit",), ()), (P, ()), (("pint", 1), ()), (("pcon", ("C",), None), ()),
    (("pcon", ("C",), P), (P,)), (("ptuple", (P, Q)), (P, Q)), (("pas", "x", P), (P,)), (("phas", P, A), (P, A)),
    (E, ()), (("unit",), ()), (("var", ("x",)), ()), (("con", ("C",)), ()), (("fn", ((P, E), (Q, D))), (P, E, Q, D)),
    (("app", E, D), (E, D)), (("tuple", (E, D, E)), (E, D, E)), (("let", (L, K), E), (L, K, E)),
    (("case", E, ((P, D), (Q, E))), (E, P, D, Q, E)), (("raise", E), (E,)), (("handle", D, ((P, E),)), (D, P, E)),
    (("has", E, A), (E, A)),
    (L, (P, E)), (("rec", (("f", None, ((P, E),)), ("g", (("a",), A), ((Q, D), (P, E))))), (P, E, A, Q, D, P, E)),
    (K, (A,)), (("exception", "C", None), ()), (("exception", "C", B), (B,)),
    (("variant", (((), "t", (("C", A), ("D", None), ("E", B))), (("a",), "u", (("F", C),)))), (A, B, C)),
    (("module", "X", M), (M,)), (("functor", "F", "X", G, M), (G, M)), (("open", ("S",)), ()),
    (("signature", "G", H), (H,)),
    (("struct", ()), ()), (("struct", (L, K)), (L, K)), (M, ()), (("apply", ("F",), M), (M,)), (("sees", M, G), (M, G)),
    (("seals", M, G), (M, G)), (("mlet", (L, K), M), (L, K, M)),
    (("sig", ()), ()), (("sig", (("val", "x", ((), A)), ("include", G))), (("val", "x", ((), A)), ("include", G))),
    (G, ()), (("where", G, ("t",), ("a",), B), (G, B)),
    (("val", "x", (("a",), C)), (C,)), (("val", "+", ((), C)), (C,)), (("shape", ("a",), "t"), ()),
    (("module", "X", G), (G,)), (("include", H), (H,)),
    ((), ()), ((L, K), (L, K)), ((("signature", "G", H),), (("signature", "G", H),)),
]


class Places(unittest.TestCase):
    def test_children_of_each_form_in_the_order_of_the_text(self):
        for tree, expected in CHILDREN:
            self.assertEqual(children(tree), expected, tree)
            self.assertIsInstance(children(tree), tuple)

    def test_places(self):
        tree = ("fn", ((P, ("app", E, ("tuple", (D, ("unit",))))), (Q, D)))
        self.assertEqual(at_place(tree, ()), tree)
        self.assertEqual(at_place(tree, (0,)), P)
        self.assertEqual(at_place(tree, (1, 0)), E)
        self.assertEqual(at_place(tree, (1, 1, 1)), ("unit",))
        self.assertEqual(at_place(tree, (3,)), D)
        for place in ((4,), (-1,), (0, 0), (1, 2), (1, 1, 2), (1, 1, 1, 0), (3, 0), (1, -1)):
            self.assertIsNone(at_place(tree, place), place)

    def test_places_in_a_program(self):
        program = (L, ("module", "X", ("struct", (K,))))
        self.assertEqual(at_place(program, ()), program)
        self.assertEqual(at_place(program, (0, 1)), E)
        self.assertEqual(at_place(program, (1, 0, 0, 0)), A)
        self.assertIsNone(at_place(program, (2,)))
        self.assertIsNone(at_place(program, (-1,)))
        self.assertEqual(at_place((), ()), ())
        self.assertIsNone(at_place((), (0,)))

    def test_nodes_and_depth(self):
        for tree, count, deep in (
            (A, 1, 1), (("sarrow", A, ("stuple", (A, B))), 5, 3), (("fn", ((P, E), (Q, ("raise", D)))), 6, 3),
            (("rec", (("f", (("a",), ("sarrow", A, B)), ((P, E),)),)), 6, 3), (M, 1, 1), (("where", G, ("t",), (), A), 3, 2),
            ((), 0, 0), ((L,), 3, 2), ((L, K), 5, 2), ((("open", ("S",)),), 1, 1),
            ((("module", "X", ("struct", (L,))), K), 7, 4),
        ):
            self.assertEqual(count_nodes(tree), count, tree)
            self.assertEqual(depth(tree), deep, tree)

    def test_trees_beyond_the_bounds(self):
        tree = E
        for _ in range(5000):
            tree = ("raise", tree)
        self.assertEqual(count_nodes(tree), 5001)
        self.assertEqual(depth(tree), 5001)
        self.assertEqual(children(tree), (tree[1],))
        self.assertEqual(at_place(tree, (0,) * 5000), E)
        self.assertIsNone(at_place(tree, (0,) * 5001))
        program = (("val", P, tree),) * 12
        self.assertEqual(count_nodes(program), 12 * 5003)
        self.assertEqual(depth(program), 5002)

    def test_nodes_and_depth_by_children(self):
        def measured(tree):
            inner = [measured(part) for part in children(tree)]
            return 1 + sum(n for n, _ in inner), 1 + max([d for _, d in inner], default=0)

        for seed in range(40):
            maker = Maker(seed)
            program = maker.tree("program")
            rows = [measured(part) for part in program]
            self.assertEqual(count_nodes(program), sum(n for n, _ in rows))
            self.assertEqual(depth(program), max([d for _, d in rows], default=0))
            self.assertEqual(is_program(program), count_nodes(program) <= 400 and depth(program) <= 14)
            expression = maker.tree("expression")
            self.assertEqual((count_nodes(expression), depth(expression)), measured(expression))

    def test_every_child_has_its_place(self):
        for seed in range(20):
            tree = Maker(seed).tree("expression")
            waiting = [((), tree)]
            while waiting:
                place, part = waiting.pop()
                self.assertEqual(at_place(tree, place), part)
                inner = children(part)
                self.assertIsNone(at_place(tree, (*place, len(inner))))
                waiting.extend([((*place, k), child) for k, child in enumerate(inner)])
