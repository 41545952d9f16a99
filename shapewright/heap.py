"""The heap: blocks of words, one after the other, in a space of limited size."""

from shapewright.errors import NoBlock, OutOfRoom
from shapewright.words import HEADER, address_of, block_length, names_block, word_of_block


class Heap:
    """A space of so many cells; `words` are those in use."""

    def __init__(self, cells):
        self.cells = cells
        self.words = []
        self.beginnings = {}

    def fits(self, n):
        """Whether a block with so many fields can be made without a collection."""
        return len(self.words) + HEADER + n <= self.cells

    def make(self, kind, a, b, fields):
        """Makes a block behind the last one and returns its word."""
        if not self.fits(len(fields)):
            raise OutOfRoom("a block does not fit into the heap")
        address = len(self.words)
        self.beginnings[address] = True
        self.words.extend([kind, a, b, len(fields), *fields])
        return word_of_block(address)

    def header(self, word):
        """The four header words of a block."""
        address = self.block_address(word)
        return tuple(self.words[address:address + HEADER])

    def field(self, word, i):
        return self.words[self.field_address(word, i)]

    def store_field(self, word, i, value):
        self.words[self.field_address(word, i)] = value

    def block_address(self, word):
        """The address of the block that the word names."""
        if not names_block(word) or address_of(word) not in self.beginnings:
            raise NoBlock("the word names no block")
        return address_of(word)

    def field_address(self, word, i):
        address = self.block_address(word)
        if not 0 <= i < self.words[address + HEADER - 1]:
            raise NoBlock("the block has no such field")
        return address + HEADER + i

    def take(self, words):
        """Takes the words of another space, as the collector makes them."""
        self.words = words
        self.beginnings = {}
        address = 0
        while address < len(words):
            self.beginnings[address] = True
            address += block_length(words, address)
