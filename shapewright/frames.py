"""Frames: what belongs to a call of a function. They hold values or words, as their machine has them."""

from shapewright.instructions import missing_index, popped


class Frame:
    """The function, the captured values (in the machine with the heap, the word of the closure that has them), the
    slots, the place of the next instruction, operands and handlers."""

    def __init__(self, function, captured, argument, unit):
        self.function = function
        self.captured = captured
        self.slots = [argument, *[unit for _ in range(function[2] - 1)]]
        self.place = 0
        self.operands = []
        self.handlers = []


def next_instruction(program, frame):
    """The instruction that the frame carries out next, or None if it, or something that it needs of the frame or of
    the program, does not exist."""
    code = frame.function[3]
    if frame.place >= len(code):
        return None
    instruction = code[frame.place]
    if missing_index(program, frame.function, instruction) is not None:
        return None
    if len(frame.operands) < popped(program, instruction) or (instruction[0] == "end" and not frame.handlers):
        return None
    return instruction


def fall_to_handler(calls, packet):
    """Raises a packet: removes the frames above the last one with a handler, which goes on there, or all of them."""
    while calls and not calls[-1].handlers:
        calls.pop()
    if calls:
        frame = calls[-1]
        frame.place, count = frame.handlers.pop()
        frame.operands = [*frame.operands[:count], packet]
