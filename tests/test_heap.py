"""The heap: points 9.2, 9.4 and 9.5."""

import random
import unittest

from shapewright.errors import NoBlock, OutOfRoom
from shapewright.heap import Heap

# A block of each row of the table of point 9.4: kind, a, b and fields.
TABLE = [
    (0, 0, 0, [4, 8]), (1, 2, 0, [4, 3, 12]), (2, 6, 11, [4]), (3, 5, 0, [4, 4, 4]), (4, 2, 2, []), (5, 4, 6, []), (5, 4, 6, [3]), (6, 0, 0, [-4]),
]


class Heaps(unittest.TestCase):
    def test_a_new_heap(self):
        for cells in (0, 1, 4, 100000):
            heap = Heap(cells)
            self.assertEqual((heap.cells, heap.words), (cells, []))

    def test_blocks_lie_one_after_the_other(self):
        heap = Heap(1000)
        words, expected = [], []
        for kind, a, b, fields in TABLE:
            word = heap.make(kind, a, b, fields)
            self.assertEqual(word, 4 * len(expected) + 1)
            expected += [kind, a, b, len(fields), *fields]
            self.assertEqual(heap.words, expected)
            words.append(word)
        for word, (kind, a, b, fields) in zip(words, TABLE):
            self.assertEqual(heap.header(word), (kind, a, b, len(fields)))
            self.assertIsInstance(heap.header(word), tuple)
            for i, field in enumerate(fields):
                self.assertEqual(heap.field(word, i), field)

    def test_the_fields_are_not_kept_as_a_list(self):
        heap, fields = Heap(100), [4, 8]
        word = heap.make(0, 0, 0, fields)
        self.assertEqual(fields, [4, 8])
        fields.append(12)
        fields[0] = 99
        self.assertEqual((heap.words, heap.field(word, 0)), ([0, 0, 0, 2, 4, 8], 4))

    def test_fits(self):
        for cells in range(12):
            heap = Heap(cells)
            for n in range(12):
                self.assertIs(heap.fits(n), n + 4 <= cells)
        heap = Heap(11)
        heap.make(6, 0, 0, [4])
        self.assertEqual([heap.fits(n) for n in range(4)], [True, True, True, False])
        heap.make(0, 0, 0, [4, 4])
        self.assertFalse(heap.fits(0))

    def test_out_of_room(self):
        heap = Heap(10)
        word = heap.make(6, 0, 0, [4])
        for fields in ([4, 4], [4] * 9):
            with self.assertRaises(OutOfRoom):
                heap.make(0, 0, 0, fields)
            self.assertEqual((heap.words, heap.cells), ([6, 0, 0, 1, 4], 10))
        with self.assertRaises(NoBlock):
            heap.header(21)
        self.assertEqual(heap.make(2, 6, 0, [word]), 21)
        self.assertEqual(heap.header(21), (2, 6, 0, 1))
        with self.assertRaises(OutOfRoom):
            heap.make(4, 0, 0, [])
        with self.assertRaises(OutOfRoom):
            Heap(3).make(4, 0, 0, [])
        self.assertEqual(Heap(4).make(4, 0, 0, []), 1)

    def test_store_field(self):
        heap = Heap(100)
        first, second = heap.make(0, 0, 0, [4, 8]), heap.make(6, 0, 0, [3])
        self.assertIsNone(heap.store_field(first, 1, second))
        heap.store_field(second, 0, second)
        self.assertEqual(heap.words, [0, 0, 0, 2, 4, second, 6, 0, 0, 1, second])

    def test_no_block(self):
        heap = Heap(100)
        word = heap.make(0, 0, 0, [1, 5])
        other = heap.make(4, 0, 0, [])
        kept = list(heap.words)
        wrong = [0, 4, 3, 2, 4 * 17 + 2, -4, -3, -1, word + 1, word + 2, 4 * 1 + 1, 4 * 4 + 1, 4 * 10 + 1, 4 * 99 + 1]
        for bad in wrong:
            for attempt in (lambda: heap.header(bad), lambda: heap.field(bad, 0), lambda: heap.store_field(bad, 0, 4)):
                with self.assertRaises(NoBlock):
                    attempt()
        for block, i in ((word, 2), (word, -1), (word, 99), (other, 0), (other, -1), (other, -4)):
            with self.assertRaises(NoBlock):
                heap.field(block, i)
            with self.assertRaises(NoBlock):
                heap.store_field(block, i, 4)
        self.assertEqual(heap.words, kept)
        with self.assertRaises(NoBlock):
            Heap(10).header(1)

    def test_random_blocks(self):
        for seed in range(30):
            chance = random.Random(seed)
            heap, made = Heap(chance.randrange(120)), {}
            for _ in range(40):
                count = chance.randrange(7)
                fields = [4 * chance.randrange(-99, 99) for _ in range(count)]
                if heap.fits(count):
                    self.assertEqual(len(heap.words), sum(4 + len(rest) for _, rest in made.values()))
                    word = heap.make(3, count, 1, fields)
                    made[word] = (count, fields)
                else:
                    with self.assertRaises(OutOfRoom):
                        heap.make(3, count, 1, fields)
                self.assertLessEqual(len(heap.words), heap.cells)
            for at in range(-2, 4 * heap.cells + 8):
                if at in made:
                    self.assertEqual(heap.header(at), (3, made[at][0], 1, len(made[at][1])))
                    self.assertEqual([heap.field(at, i) for i in range(len(made[at][1]))], made[at][1])
                else:
                    with self.assertRaises(NoBlock):
                        heap.header(at)
