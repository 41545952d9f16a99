"""The collector: points 9.6 to 9.8."""

import random
import unittest

from heaps import beginnings, graph, random_heap
from shapewright.collector import collect, reachable
from shapewright.heap import Heap


class Collections(unittest.TestCase):
    def test_nothing(self):
        self.assertEqual(collect([], []), ([], []))
        self.assertEqual(reachable([], []), 0)
        words = [4, 0, 0, 0, 6, 0, 0, 1, 4]
        self.assertEqual(collect(words, []), ([], []))
        self.assertEqual(collect(words, [3, 4, -8, 66, 0]), ([], [3, 4, -8, 66, 0]))
        self.assertEqual(reachable(words, [3, 4, -8, 66, 0]), 0)

    def test_kinds_of_results(self):
        result = collect([4, 0, 0, 0], [1])
        self.assertIsInstance(result, tuple)
        self.assertEqual(result, ([4, 0, 0, 0], [1]))
        self.assertTrue(all(isinstance(part, list) for part in result))

    def test_a_block_moves_to_the_beginning(self):
        words = [4, 0, 0, 0, 6, 0, 0, 1, 12]
        self.assertEqual(collect(words, [17, 3, 17]), ([6, 0, 0, 1, 12], [1, 3, 1]))
        self.assertEqual(reachable(words, [17, 3, 17]), 5)

    def test_header_words_are_no_values(self):
        # All header words look like words of blocks.
        words = [4, 0, 0, 0, 5, 1, 17, 1, 12, 1, 5, 5, 0]
        self.assertEqual(collect(words, [17]), ([5, 1, 17, 1, 12], [1]))
        self.assertEqual(collect(words, [37]), ([1, 5, 5, 0], [1]))
        self.assertEqual(reachable(words, [17, 37]), 9)

    def test_sharing_and_cycles(self):
        heap = Heap(100)
        first = heap.make(6, 0, 0, [3])
        second = heap.make(0, 0, 0, [first, first])
        heap.store_field(first, 0, second)
        self.assertEqual(reachable(heap.words, [first]), 11)
        words, roots = collect(heap.words, [second, first, second])
        self.assertEqual(len(words), 11)
        self.assertEqual(graph(words, roots), graph(heap.words, [second, first, second]))

    def test_random_heaps(self):
        for seed in range(400):
            heap, blocks = random_heap(seed)
            chance = random.Random(seed)
            roots = [chance.choice([*blocks, 3, 4, 66, -4, 0]) for _ in range(chance.randrange(5))]
            before, kept_roots = list(heap.words), list(roots)
            words, moved = collect(heap.words, roots)
            self.assertEqual((heap.words, roots), (before, kept_roots))
            self.assertEqual(graph(words, moved), graph(before, roots))
            # Nothing else is copied, and every block once.
            _, found = graph(before, roots)
            self.assertEqual(len(beginnings(words)), len(found))
            self.assertEqual(len(words), sum(4 + len(fields) for _, fields in found))
            self.assertEqual(reachable(heap.words, roots), len(words))
            self.assertEqual((heap.words, roots), (before, kept_roots))
            for old, new in zip(roots, moved):
                self.assertEqual(old % 4 == 1, new % 4 == 1)
                if new % 4 == 1:
                    self.assertIn(new // 4, beginnings(words))
            # A second collection changes nothing that can be seen.
            again, last = collect(words, moved)
            self.assertEqual(graph(again, last), graph(before, roots))
            self.assertEqual(len(again), len(words))

    def test_a_long_chain(self):
        heap = Heap(100000)
        word = 3
        for k in range(15000):
            word = heap.make(0, 0, 0, [4 * k, word])
        self.assertEqual(reachable(heap.words, [word]), 90000)
        words, roots = collect(heap.words, [word])
        self.assertEqual((len(words), len(roots)), (90000, 1))
        at = roots[0]
        for k in range(15000)[::-1]:
            self.assertEqual(words[at // 4 + 4], 4 * k)
            at = words[at // 4 + 5]
        self.assertEqual(at, 3)
