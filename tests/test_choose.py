"""Decision graphs: points 5.12 to 5.15."""

import random
import unittest

from plain_samples import BOOL, EXCEPTIONS, NUMBERS, columns
from shapewright.choose import choose, decision_graph
from shapewright.matrix import fits

ANY, X, Y = ("any",), ("var", "x"), ("var", "y")
A, B, C = EXCEPTIONS
OPTION = (("None", False), ("Some", True))
TAGS = {"leaf": 3, "fail": 1, "constructor": 5, "integer": 5, "exception": 5}


def tests_in(pattern):
    count = 1 if pattern[0] in ("int", "con", "packet") else 0
    parts = pattern[1] if pattern[0] == "tuple" else pattern[-1:] if pattern[0] in ("con", "packet", "as") else ()
    return count + sum(tests_in(part) for part in parts if part is not None)


class Graphs(unittest.TestCase):
    def check_form(self, graph, rows):
        self.assertIs(type(graph), tuple)
        self.assertLessEqual(len(graph), sum(tests_in(row) for row in rows) + len(rows) + 1)
        reached = {0}
        for index, node in enumerate(graph):
            self.assertIs(type(node), tuple)
            self.assertEqual(len(node), TAGS[node[0]])
            self.assertIn(index, reached)
            if node[0] == "leaf":
                self.assertIn(node[1], range(len(rows)))
                self.assertIs(type(node[2]), tuple)
                self.assertTrue(all(type(row) is tuple and len(row) == 2 and type(row[1]) is tuple for row in node[2]))
            elif node[0] != "fail":
                for successor in node[3:]:
                    self.assertTrue(index < successor < len(graph))
                    reached.add(successor)

    def check_walks(self, graph, rows):
        """On each walk, an argument is looked at only behind the test that shows that it is there."""
        waiting = [(0, frozenset())]
        seen = set()
        while waiting:
            index, shown = waiting.pop()
            if (index, shown) in seen or len(seen) > 20000:
                continue
            seen.add((index, shown))
            node = graph[index]
            places = [place for _, place in node[2]] if node[0] == "leaf" else [] if node[0] == "fail" else [node[1]]
            for place in places:
                for k, step in enumerate(place):
                    if step == "argument":
                        self.assertIn(place[:k], shown, (graph, index))
            if len(node) == 5:
                waiting.append((node[3], shown | {node[1]} if node[0] != "integer" else shown))
                waiting.append((node[4], shown))

    def test_small_graphs(self):
        some = ("con", OPTION, 1, X)
        rows_of = [
            [ANY], [X], [("tuple", ())], [("int", 4)], [("int", 4), ANY], [ANY, ("int", 4)], [("con", BOOL, 0, None), ("con", BOOL, 1, None)], [some, ("con", OPTION, 0, None)], [("packet", A, X), ("packet", B, None)],
            [("as", "x", ("tuple", (Y, ("con", OPTION, 1, ("int", 3))))), ("tuple", (ANY, some))], [("con", BOOL, 0, None)] * 3,
        ]
        for rows in rows_of:
            graph = decision_graph(rows)
            self.check_form(graph, rows)
            self.check_walks(graph, rows)

    def test_values(self):
        one, two = ("int", 1), ("int", 2)
        some = ("con", 1, "Some", one)
        rows = [("con", OPTION, 0, None), ("con", OPTION, 1, ("int", 2)), ("as", "x", ("con", OPTION, 1, Y))]
        graph = decision_graph(rows)
        self.assertEqual(choose(graph, ("con", 0, "None", None), []), (0, []))
        self.assertEqual(choose(graph, ("con", 1, "Some", two), []), (1, []))
        self.assertEqual(choose(graph, some, []), (2, [("x", some), ("y", one)]))
        graph = decision_graph([("tuple", (("int", 1), X)), ("tuple", (Y, ("int", 2)))])
        self.assertEqual(choose(graph, ("tuple", (one, two)), []), (0, [("x", two)]))
        self.assertEqual(choose(graph, ("tuple", (two, two)), []), (1, [("y", two)]))
        self.assertIsNone(choose(graph, ("tuple", (two, one)), []))

    def test_packets_and_numbers(self):
        packet, bare = ("packet", 4, "A", ("int", 1)), ("packet", 5, "B", None)
        graph = decision_graph([("packet", C, X), ("packet", A, X), ("packet", B, None)])
        self.assertEqual(choose(graph, packet, NUMBERS), (1, [("x", ("int", 1))]))
        self.assertEqual(choose(graph, bare, NUMBERS), (2, []))
        self.assertIsNone(choose(graph, ("packet", 9, "A", ("int", 1)), NUMBERS))
        self.assertIsNone(choose(graph, packet, []))
        self.assertEqual(choose(graph, packet, [(A, 4), (C, 4)]), (0, [("x", ("int", 1))]))
        self.assertEqual(choose(graph, packet, [(C, 4)]), (0, [("x", ("int", 1))]))
        self.assertEqual(choose(graph, packet, [(A, 4)]), (1, [("x", ("int", 1))]))

    def test_rows_against_fits(self):
        chance = random.Random(3)
        count = 0
        for column in columns(21, 400, 2) + columns(22, 150, 3):
            rows = [column.pattern([]) for _ in range(chance.randint(1, 12))]
            graph = decision_graph(rows)
            self.check_form(graph, rows)
            self.check_walks(graph, rows)
            for value in column.values(80):
                for numbers in (NUMBERS, NUMBERS[:1], [(A, 4), (C, 4), (B, 5)]):
                    found = [(k, fits(row, value, numbers)) for k, row in enumerate(rows)]
                    found = [row for row in found if row[1] is not None]
                    self.assertEqual(choose(graph, value, numbers), found[0] if found else None)
                    count += 1
        self.assertGreater(count, 10000)

    def test_the_rows_stay_as_they_are(self):
        rows = [("tuple", (("int", 1), X)), ANY]
        decision_graph(rows)
        self.assertEqual(rows, [("tuple", (("int", 1), X)), ANY])


if __name__ == "__main__":
    unittest.main()
