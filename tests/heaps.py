"""Random heaps for the tests of the collector: blocks with fields that name any block, also later ones and cycles."""

import random

from shapewright.heap import Heap


def random_heap(seed, blocks=12):
    """A heap and the words of its blocks."""
    chance = random.Random(seed)
    heap = Heap(100000)
    words = []
    for _ in range(blocks):
        count = chance.choice([0, 1, 1, 2, 3, 6])
        words.append(heap.make(chance.randrange(7), chance.randrange(9), chance.randrange(12), [4 * chance.randrange(-9, 9) for _ in range(count)]))
    for word in words:
        for i in range(heap.header(word)[3]):
            roll = chance.random()
            if roll < 0.6:
                heap.store_field(word, i, chance.choice(words))
            elif roll < 0.7:
                heap.store_field(word, i, chance.choice([3, 4 * 17 + 2, -4]))
    return heap, words


def graph(words, roots):
    """What can be reached from the roots, without addresses: the roots, and for each block that is reached, in the order
    in which it is met, its header and fields. A block is named by its number in that order."""
    numbers, found, waiting = {}, [], []

    def told(word):
        if word % 4 != 1:
            return word
        if word not in numbers:
            numbers[word] = len(numbers)
            waiting.append(word)
        return ("block", numbers[word])

    first = [told(word) for word in roots]
    while waiting:
        at = waiting.pop(0) // 4
        count = words[at + 3]
        found.append((tuple(words[at:at + 4]), [told(word) for word in words[at + 4:at + 4 + count]]))
    return first, found


def beginnings(words):
    """The addresses of the blocks that lie one after the other in the words."""
    found, at = [], 0
    while at < len(words):
        found.append(at)
        at += 4 + words[at + 3]
    assert at == len(words)
    return found
