"""The runner: a plain machine for programs of instructions, whose values are trees.

An action takes the runner, the frame that runs and the instruction, whose operands are there. It returns None, or the
word "kind" if a value of another kind is popped than the instruction needs.
"""

from shapewright.frames import Frame, fall_to_handler, next_instruction
from shapewright.instructions import operands
from shapewright.rows import field_of
from shapewright.values import FIXED_NAMES, UNIT, operate

KIND = "kind"


class Runner:
    """The state of a run: the frames (the last one runs), the store, the next exception and the output."""

    def __init__(self, program):
        self.program = program
        self.calls = [Frame(program[0], (), UNIT, UNIT)]
        self.store = ()
        self.made = 4
        self.printed = []
        self.ending = None

    def enter(self, function, argument):
        """A new frame for the call of a closure goes on top."""
        self.calls.append(Frame(self.program[function[1]], function[2], argument, UNIT))

    def throw(self, packet):
        fall_to_handler(self.calls, packet)
        if not self.calls:
            self.ending = ("raised", packet)


def run_program(program, fuel):
    """Carries out at most so many instructions; returns the end, the output, the store and their number."""
    runner = Runner(program)
    used = 0
    while runner.ending is None and used < fuel:
        word = carry_out(runner)
        if word is None:
            used += 1
        else:
            runner.ending = ("stuck", word)
    end = ("fuel",) if runner.ending is None else runner.ending
    return end, tuple(runner.printed), runner.store, used


def carry_out(runner):
    """Carries out the next instruction, or returns the word of what is wrong with it."""
    frame = runner.calls[-1]
    instruction = next_instruction(runner.program, frame)
    if instruction is None:
        return "broken"
    frame.place += 1
    action = ACTIONS[instruction[0]]
    return action(runner, frame, instruction)


def push(frame, value):
    frame.operands.append(value)


def pop(frame):
    return frame.operands.pop()


def pop_many(frame, count):
    """The values of so many operands, the one pushed last at the end."""
    left = len(frame.operands) - count
    values = tuple(frame.operands[left:])
    frame.operands = frame.operands[:left]
    return values


def run_int(runner, frame, instruction):
    push(frame, instruction)


def run_fixed(runner, frame, instruction):
    push(frame, ("exn", instruction[1], FIXED_NAMES[instruction[1]]))


def run_slot(runner, frame, instruction):
    push(frame, frame.slots[instruction[1]])


def run_store(runner, frame, instruction):
    frame.slots[instruction[1]] = pop(frame)


def run_captured(runner, frame, instruction):
    push(frame, frame.captured[instruction[1]])


def run_drop(runner, frame, instruction):
    pop(frame)


def run_tuple(runner, frame, instruction):
    push(frame, ("tuple", pop_many(frame, instruction[1])))


def run_part(runner, frame, instruction):
    value = pop(frame)
    if value[0] != "tuple" or len(value[1]) <= instruction[1]:
        return KIND
    return push(frame, value[1][instruction[1]])


def run_record(runner, frame, instruction):
    values = pop_many(frame, len(instruction[1]))
    push(frame, ("record", tuple(zip(instruction[1], values))))


def run_field(runner, frame, instruction):
    part = field_of(pop(frame), instruction[1])
    return KIND if part is None else push(frame, part)


def run_con(runner, frame, instruction):
    push(frame, (*instruction, None))


def run_wrap(runner, frame, instruction):
    push(frame, ("con", instruction[1], instruction[2], pop(frame)))


def run_argument(runner, frame, instruction):
    value = pop(frame)
    if value[0] not in ("con", "packet") or value[3] is None:
        return KIND
    return push(frame, value[3])


def run_closure(runner, frame, instruction):
    number = instruction[1]
    push(frame, ("closure", number, pop_many(frame, runner.program[number][1])))


def run_sibling(runner, frame, instruction):
    push(frame, ("closure", instruction[1], frame.captured))


def run_call(runner, frame, instruction):
    function, argument = pop_many(frame, 2)
    if function[0] != "closure":
        return KIND
    if instruction[0] == "tail":
        runner.calls.pop()
    return runner.enter(function, argument)


def run_return(runner, frame, instruction):
    value = pop(frame)
    runner.calls.pop()
    if runner.calls:
        push(runner.calls[-1], value)
    else:
        runner.ending = ("value", value)


def run_jump(runner, frame, instruction):
    frame.place = instruction[1]


def run_test(runner, frame, instruction):
    """Goes on elsewhere if a constructor or an integer is another one than the instruction says."""
    value = pop(frame)
    if value[0] != ("con" if instruction[0] == "constructor" else "int"):
        return KIND
    if value[1] != instruction[1]:
        frame.place = instruction[2]
    return None


def run_exception(runner, frame, instruction):
    packet, exception = pop_many(frame, 2)
    if packet[0] != "packet" or exception[0] != "exn":
        return KIND
    if packet[1] != exception[1]:
        frame.place = instruction[1]
    return None


def run_new(runner, frame, instruction):
    push(frame, ("exn", runner.made, instruction[1]))
    runner.made += 1


def run_packet(runner, frame, instruction):
    argument = pop(frame) if instruction[1] else None
    exception = pop(frame)
    if exception[0] != "exn":
        return KIND
    return push(frame, ("packet", exception[1], exception[2], argument))


def run_raise(runner, frame, instruction):
    packet = pop(frame)
    return runner.throw(packet) if packet[0] == "packet" else KIND


def run_try(runner, frame, instruction):
    frame.handlers.append((instruction[1], len(frame.operands)))


def run_end(runner, frame, instruction):
    frame.handlers.pop()


def run_prim(runner, frame, instruction):
    values = pop_many(frame, operands(instruction[1]))
    word, result, runner.store, printed = operate(instruction[1], list(values), runner.store)
    runner.printed.extend(printed)
    if word == "stuck":
        return KIND
    return push(frame, result) if word == "give" else runner.throw(result)


ACTIONS = {
    "int": run_int, "fixed": run_fixed, "slot": run_slot, "store": run_store, "captured": run_captured,
    "drop": run_drop, "tuple": run_tuple, "part": run_part, "record": run_record, "field": run_field, "con": run_con,
    "wrap": run_wrap, "argument": run_argument, "closure": run_closure, "sibling": run_sibling, "call": run_call,
    "tail": run_call, "return": run_return, "jump": run_jump, "constructor": run_test, "integer": run_test,
    "exception": run_exception, "new": run_new, "packet": run_packet, "raise": run_raise, "try": run_try,
    "end": run_end, "prim": run_prim,
}
