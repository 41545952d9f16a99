"""The machine: it carries out programs on a heap of words, with a collector that may run at any time."""

from shapewright.actions import ACTIONS, FULL
from shapewright.collector import collect
from shapewright.frames import Frame, fall_to_handler, next_instruction
from shapewright.heap import Heap
from shapewright.numbering import numbered_labels, numbered_names
from shapewright.values import UNIT, equal_by, show_by
from shapewright.words import (
    CLOSURE, CONSTRUCTOR, EXCEPTION, HEADER, PACKET, RECORD, TUPLE, UNIT_WORD, address_of, constructor_of,
    integer_of, names_block, names_constructor, names_integer, word_of_block, word_of_constructor, word_of_integer,
)

SHOWN_PARTS = 100
# The header that is told for words that name no block.
NO_HEADER = (None, None, None, 0)
# While the room of a program is looked for, the heap has at first half as many cells more as are known to be needed.
FIRST_PART = 2
FINER = 16


class Machine:
    """A run of a program on a heap with so many cells. The last frame of `calls` runs; `names` and `labels` are the
    numbers of names and of tuples of labels, `name_list` and `label_list` the names and labels with these numbers.
    Unless `part` is None, the heap grows where it would be full, so that it is not collected for each single block;
    `needed` is then the greatest number of cells that were needed."""

    def __init__(self, program, cells):
        self.program = program
        self.heap = Heap(cells)
        self.names = numbered_names(program)
        self.name_list = list(self.names)
        self.labels = numbered_labels(program)
        self.label_list = list(self.labels)
        self.calls = [Frame(program[0], 0, UNIT_WORD, UNIT_WORD)]
        self.made = 4
        self.printed = []
        self.ending = None
        self.part = None
        self.needed = 0

    def step(self):
        """Carries out one instruction if there is no end."""
        if self.ending is not None:
            return
        frame = self.calls[-1]
        instruction = next_instruction(self.program, frame)
        if instruction is None:
            self.finish(("stuck", "broken"))
            return
        frame.place += 1
        action = ACTIONS[instruction[0]]
        word = action(self, frame, instruction)
        if word is not None:
            self.finish((FULL,) if word == FULL else ("stuck", word))

    def collect(self):
        """Makes a collection."""
        roots = []
        for frame in self.calls:
            roots.extend([frame.captured, *frame.slots, *frame.operands])
        words, roots = collect(self.heap.words, roots)
        self.heap.take(words)
        place = 0
        for frame in self.calls:
            behind_slots = place + 1 + len(frame.slots)
            after = behind_slots + len(frame.operands)
            frame.captured = roots[place]
            frame.slots = roots[place + 1:behind_slots]
            frame.operands = roots[behind_slots:after]
            place = after

    def end(self):
        """How the run has ended, or None."""
        return self.ending

    def output(self):
        """The integers printed so far."""
        return tuple(self.printed)

    def used(self):
        """The number of words in use."""
        return len(self.heap.words)

    def frames(self):
        """The number of frames."""
        return len(self.calls)

    def has_room(self, count):
        """Whether a block with so many fields fits, after a collection if it does not fit before."""
        if not self.heap.fits(count):
            self.collect()
        if not self.heap.fits(count) and self.part is not None:
            self.grow_for(count)
        return self.heap.fits(count)

    def grow_for(self, count):
        """Notes how many cells are needed for a block with so many fields, and gets a part of them more."""
        self.needed = len(self.heap.words) + HEADER + count
        self.heap.cells = self.needed + self.needed // self.part

    def make(self, header, fields):
        """The word of a new block; the header has its first three words."""
        kind, a, b = header
        return self.heap.make(kind, a, b, fields)

    def header(self, word):
        """The header of the block that the word names."""
        return self.heap.header(word) if names_block(word) else NO_HEADER

    def enter(self, number, closure, argument):
        """A new frame for a call of the closure goes on top."""
        self.calls.append(Frame(self.program[number], closure, argument, UNIT_WORD))

    def leave(self, word):
        """The last frame is removed, and the frame below gets the word."""
        self.calls.pop()
        if self.calls:
            self.calls[-1].operands.append(word)
        else:
            self.finish(("value", self.text(word)))

    def throw(self, packet):
        fall_to_handler(self.calls, packet)
        if not self.calls:
            self.finish(("raised", self.text(packet)))

    def finish(self, ending):
        self.ending = ending
        self.calls = []

    def plain_word(self, value):
        """The word of a value that needs no block."""
        if value[0] == "int":
            return word_of_integer(value[1])
        return UNIT_WORD if value == UNIT else word_of_constructor(self.names[value[2]], value[1])

    def outside(self, word):
        """The value of which the word is the name; its parts are words, and the place of a reference is an address."""
        if names_integer(word):
            return ("int", integer_of(word))
        if names_constructor(word):
            name, index = constructor_of(word)
            return ("con", index, self.name_list[name], None)
        if not names_block(word):
            return UNIT
        kind, a, b, count = self.heap.header(word)
        fields = tuple([self.heap.field(word, index) for index in range(count)])
        if kind == TUPLE:
            return ("tuple", fields)
        if kind == RECORD:
            return ("record", tuple(zip(self.label_list[a], fields)))
        if kind == CONSTRUCTOR:
            return ("con", b, self.name_list[a], fields[0])
        if kind == CLOSURE:
            return ("closure", a, fields)
        if kind == EXCEPTION:
            return ("exn", a, self.name_list[b])
        if kind == PACKET:
            return ("packet", a, self.name_list[b], fields[0] if fields else None)
        return ("ref", address_of(word))

    def equal_words(self, first, second):
        """Whether the values of two words are equal, or None."""
        return equal_by(first, second, lambda word: self.outside(word))

    def text(self, word):
        """The written form of the value of a word."""
        return show_by(word, SHOWN_PARTS, lambda part: self.outside(part), lambda address: self.held(address))

    def held(self, address):
        """The word in the reference at an address."""
        return self.heap.field(word_of_block(address), 0)


def run_machine(program, cells, fuel, every):
    """Carries out at most so many instructions, with a collection before each instruction whose number is divisible by
    `every`, if that is not 0; returns the end and the output."""
    machine = Machine(program, cells)
    number = 0
    while machine.end() is None and number < fuel:
        number += 1
        if every != 0 and number % every == 0:
            machine.collect()
        machine.step()
    end = machine.end()
    return ("fuel",) if end is None else end, machine.output()


def known_need(program, fuel, needed, part):
    """A number of cells that a run needs, at least `needed`. It is the least one if no part of it is added."""
    machine = Machine(program, needed + needed // part)
    machine.needed = needed
    machine.part = part
    for _ in range(fuel):
        if machine.end() is not None:
            break
        machine.step()
    return machine.needed


def room(program, fuel):
    """The least number of cells with which a run of at most so many instructions does not find the heap full."""
    part = FIRST_PART
    needed = known_need(program, fuel, 0, part)
    while needed // part > 0:
        part = part * FINER
        needed = known_need(program, fuel, needed, part)
    return needed
