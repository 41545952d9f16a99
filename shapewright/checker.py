"""The code checker: whether the instructions of a program stay within their frame, their operands and their code.

All jumps lead forward. So one walk over the places of a function, in ascending order, knows all ways to a place before
it comes there. A way is a pair: the number of operands and the stack of handlers, each a place and a number of
operands, the last one first.
"""

from shapewright.instructions import JUMPS, is_instruction, missing_index, popped, pushed

RAISING = ("div", "mod", "equal")
LEAVING = ("return", "tail")


def check(program):
    """The first fault of a program as (function, place, word), or None."""
    if not program:
        return (0, 0, "form")
    for number in range(len(program)):
        fault = function_fault(program, number)
        if fault is not None:
            return (number, *fault)
    return None


def function_fault(program, number):
    """The place and the word of the first fault of a function, or None."""
    _, captured, slots, code = program[number]
    if slots < 1 or not code or (number == 0 and captured != 0):
        return (0, "form")
    ways = {0: [(0, ())]}
    for place, instruction in enumerate(code):
        word = place_fault(program, number, place, ways.get(place, []))
        if word is not None:
            return (place, word)
        if place in ways:
            for target, way in ways_on(program, instruction, place, ways[place][0]):
                ways.setdefault(target, []).append(way)
    return None


def place_fault(program, number, place, ways):
    """The word for what is wrong at a place to which these ways lead, or None."""
    if any([way != ways[0] for way in ways]):
        return "join"
    instruction = program[number][3][place]
    if not is_instruction(instruction):
        return "form"
    if not ways:
        return None
    length = len(program[number][3])
    if instruction[0] in JUMPS and not place < instruction[-1] < length:
        return "target"
    word = missing_index(program, program[number], instruction)
    if word is not None:
        return word
    if instruction[0] == "sibling" and program[instruction[1]][1] != program[number][1]:
        return "sibling"
    word = way_fault(program, instruction, ways[0])
    if word is not None:
        return word
    return "last" if place + 1 == length and falls_through(instruction) else None


def way_fault(program, instruction, way):
    """The word for what is wrong with an instruction before which the operands and handlers are these, or None."""
    count, handlers = way
    tag = instruction[0]
    left = count - popped(program, instruction)
    if left < 0 or (may_raise(instruction) and handlers and left < handlers[0][1]):
        return "depth"
    if tag == "end" and (not handlers or left < handlers[0][1]):
        return "handler"
    if tag in LEAVING and handlers:
        return "handler"
    return "extra" if tag in LEAVING and left > 0 else None


def may_raise(instruction):
    return instruction[0] in ("call", "raise") or (instruction[0] == "prim" and instruction[1] in RAISING)


def falls_through(instruction):
    """Whether the frame may go on at the next place."""
    return instruction[0] not in (*LEAVING, "raise", "jump")


def ways_on(program, instruction, place, way):
    """The places to which the instruction leads, each with the way."""
    count, handlers = way
    tag = instruction[0]
    if tag == "try":
        return [(instruction[1], (count + 1, handlers)), (place + 1, (count, ((instruction[1], count), *handlers)))]
    after = (count - popped(program, instruction) + pushed(instruction), handlers[1:] if tag == "end" else handlers)
    targets = [instruction[-1]] if tag in JUMPS else []
    if falls_through(instruction):
        targets.append(place + 1)
    return [(target, after) for target in targets]
