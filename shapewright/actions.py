"""What the machine with the heap does at each instruction.

An action takes the machine, the frame that runs and the instruction, whose operands are there. It returns None, "kind"
if a word of another kind is popped than the instruction needs, or "full" if there is no room for a block. An action
that makes a block pops its operands afterwards: they are roots of the collection that may be made before.
"""

from shapewright.instructions import operands
from shapewright.values import boolean, operate
from shapewright.words import (
    CLOSURE, CONSTRUCTOR, EXCEPTION, PACKET, RECORD, REFERENCE, TUPLE, UNIT_WORD, constructor_of, integer_of,
    names_constructor, names_integer, word_of_constructor, word_of_integer,
)

KIND = "kind"
FULL = "full"
EQUALITY_NUMBER = 3


def push(frame, word):
    frame.operands.append(word)


def pop(frame):
    return frame.operands.pop()


def drop(frame, count):
    """Pops so many operands."""
    frame.operands = frame.operands[:len(frame.operands) - count]


def last(frame, count):
    """The last operands, the one pushed last at the end."""
    return frame.operands[len(frame.operands) - count:]


def push_block(machine, frame, header, count, popped):
    """Pops operands and pushes a block whose fields are the last ones of them; the header has its first words."""
    if not machine.has_room(count):
        return FULL
    word = machine.make(header, last(frame, count))
    drop(frame, popped)
    return push(frame, word)


def throw_fixed(machine, frame, number):
    """Raises a new packet of a fixed exception."""
    if not machine.has_room(0):
        return FULL
    return machine.throw(machine.make((PACKET, number, number), []))


def do_int(machine, frame, instruction):
    push(frame, word_of_integer(instruction[1]))


def do_fixed(machine, frame, instruction):
    # The names of the fixed exceptions have the numbers of the exceptions.
    return push_block(machine, frame, (EXCEPTION, instruction[1], instruction[1]), 0, 0)


def do_slot(machine, frame, instruction):
    push(frame, frame.slots[instruction[1]])


def do_store(machine, frame, instruction):
    frame.slots[instruction[1]] = pop(frame)


def do_captured(machine, frame, instruction):
    push(frame, machine.heap.field(frame.captured, instruction[1]))


def do_drop(machine, frame, instruction):
    pop(frame)


def do_tuple(machine, frame, instruction):
    count = instruction[1]
    if count == 0:
        return push(frame, UNIT_WORD)
    return push_block(machine, frame, (TUPLE, 0, 0), count, count)


def do_part(machine, frame, instruction):
    kind, _, _, count = machine.header(frame.operands[-1])
    if kind != TUPLE or count <= instruction[1]:
        return KIND
    return push(frame, machine.heap.field(pop(frame), instruction[1]))


def do_record(machine, frame, instruction):
    labels = instruction[1]
    return push_block(machine, frame, (RECORD, machine.labels[labels], 0), len(labels), len(labels))


def do_field(machine, frame, instruction):
    kind, number, _, _ = machine.header(frame.operands[-1])
    if kind != RECORD or instruction[1] not in machine.label_list[number]:
        return KIND
    return push(frame, machine.heap.field(pop(frame), machine.label_list[number].index(instruction[1])))


def do_con(machine, frame, instruction):
    push(frame, word_of_constructor(machine.names[instruction[2]], instruction[1]))


def do_wrap(machine, frame, instruction):
    return push_block(machine, frame, (CONSTRUCTOR, machine.names[instruction[2]], instruction[1]), 1, 1)


def do_argument(machine, frame, instruction):
    kind, _, _, count = machine.header(frame.operands[-1])
    if kind not in (CONSTRUCTOR, PACKET) or count == 0:
        return KIND
    return push(frame, machine.heap.field(pop(frame), 0))


def do_closure(machine, frame, instruction):
    number = instruction[1]
    count = machine.program[number][1]
    return push_block(machine, frame, (CLOSURE, number, 0), count, count)


def do_sibling(machine, frame, instruction):
    count = frame.function[1]
    if not machine.has_room(count):
        return FULL
    fields = [machine.heap.field(frame.captured, index) for index in range(count)]
    return push(frame, machine.make((CLOSURE, instruction[1], 0), fields))


def do_call(machine, frame, instruction):
    closure, argument = last(frame, 2)
    kind, number, _, _ = machine.header(closure)
    if kind != CLOSURE:
        return KIND
    drop(frame, 2)
    if instruction[0] == "tail":
        machine.calls.pop()
    return machine.enter(number, closure, argument)


def do_return(machine, frame, instruction):
    machine.leave(pop(frame))


def do_jump(machine, frame, instruction):
    frame.place = instruction[1]


def do_constructor(machine, frame, instruction):
    word = pop(frame)
    kind, _, index, _ = machine.header(word)
    if names_constructor(word):
        _, index = constructor_of(word)
    elif kind != CONSTRUCTOR:
        return KIND
    if index != instruction[1]:
        frame.place = instruction[2]
    return None


def do_integer(machine, frame, instruction):
    word = pop(frame)
    if not names_integer(word):
        return KIND
    if integer_of(word) != instruction[1]:
        frame.place = instruction[2]
    return None


def do_exception(machine, frame, instruction):
    packet, exception = [machine.header(word) for word in last(frame, 2)]
    if packet[0] != PACKET or exception[0] != EXCEPTION:
        return KIND
    drop(frame, 2)
    if packet[1] != exception[1]:
        frame.place = instruction[1]
    return None


def do_new(machine, frame, instruction):
    if not machine.has_room(0):
        return FULL
    push(frame, machine.make((EXCEPTION, machine.made, machine.names[instruction[1]]), []))
    machine.made += 1
    return None


def do_packet(machine, frame, instruction):
    count = 1 if instruction[1] else 0
    kind, number, name, _ = machine.header(frame.operands[-1 - count])
    if kind != EXCEPTION:
        return KIND
    return push_block(machine, frame, (PACKET, number, name), count, count + 1)


def do_raise(machine, frame, instruction):
    if machine.header(frame.operands[-1])[0] != PACKET:
        return KIND
    return machine.throw(pop(frame))


def do_try(machine, frame, instruction):
    frame.handlers.append((instruction[1], len(frame.operands)))


def do_end(machine, frame, instruction):
    frame.handlers.pop()


def do_prim(machine, frame, instruction):
    name = instruction[1]
    if name in OPERATIONS:
        action = OPERATIONS[name]
        return action(machine, frame)
    count = operands(name)
    word, value, _, printed = operate(name, [machine.outside(part) for part in last(frame, count)], ())
    if word == "stuck":
        return KIND
    if word == "throw":
        return throw_fixed(machine, frame, value[1])
    drop(frame, count)
    machine.printed.extend(printed)
    return push(frame, machine.plain_word(value))


def do_equal(machine, frame):
    first, second = last(frame, 2)
    result = machine.equal_words(first, second)
    if result is None:
        return throw_fixed(machine, frame, EQUALITY_NUMBER)
    drop(frame, 2)
    return push(frame, machine.plain_word(boolean(result)))


def do_ref(machine, frame):
    return push_block(machine, frame, (REFERENCE, 0, 0), 1, 1)


def do_fetch(machine, frame):
    if machine.header(frame.operands[-1])[0] != REFERENCE:
        return KIND
    return push(frame, machine.heap.field(pop(frame), 0))


def do_assign(machine, frame):
    reference, word = last(frame, 2)
    if machine.header(reference)[0] != REFERENCE:
        return KIND
    machine.heap.store_field(reference, 0, word)
    drop(frame, 2)
    return push(frame, UNIT_WORD)


OPERATIONS = {"equal": do_equal, "ref": do_ref, "fetch": do_fetch, "assign": do_assign}
ACTIONS = {
    "int": do_int, "fixed": do_fixed, "slot": do_slot, "store": do_store, "captured": do_captured, "drop": do_drop,
    "tuple": do_tuple, "part": do_part, "record": do_record, "field": do_field, "con": do_con, "wrap": do_wrap,
    "argument": do_argument, "closure": do_closure, "sibling": do_sibling, "call": do_call, "tail": do_call,
    "return": do_return, "jump": do_jump, "constructor": do_constructor, "integer": do_integer,
    "exception": do_exception, "new": do_new, "packet": do_packet, "raise": do_raise, "try": do_try, "end": do_end,
    "prim": do_prim,
}
