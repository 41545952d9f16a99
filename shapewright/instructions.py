"""The instructions of programs: their form, and how many operands they pop and push."""

from shapewright.integers import is_integer, is_number
from shapewright.operations import OPERAND_COUNTS

MAX_INDEX = 11
TUPLE_LENGTHS = (0, 2, 3, 4, 5, 6)


def operands(name):
    """The number of operands of a primitive operation, 0 for other strings."""
    return OPERAND_COUNTS.get(name, 0)


def is_string(value):
    return isinstance(value, str)


def is_truth(value):
    return isinstance(value, bool)


def is_fixed(value):
    return is_number(value) and value <= 3


def is_index(value):
    return is_number(value) and value <= MAX_INDEX


def is_length(value):
    return is_number(value) and value in TUPLE_LENGTHS


def is_labels(value):
    """Whether the value can be the labels of a record: different strings."""
    if not isinstance(value, tuple) or not all([is_string(label) for label in value]):
        return False
    return len({label for label in value}) == len(value)


def is_operation(value):
    return is_string(value) and value in OPERAND_COUNTS


# For each instruction, what its further items must be.
FORMS = {
    "int": (is_integer,), "fixed": (is_fixed,), "slot": (is_number,), "store": (is_number,),
    "captured": (is_number,), "drop": (), "tuple": (is_length,), "part": (is_number,), "record": (is_labels,),
    "field": (is_string,), "con": (is_index, is_string), "wrap": (is_index, is_string), "argument": (),
    "closure": (is_number,), "sibling": (is_number,), "call": (), "tail": (), "return": (), "jump": (is_number,),
    "constructor": (is_index, is_number), "integer": (is_integer, is_number), "exception": (is_number,),
    "new": (is_string,), "packet": (is_truth,), "raise": (), "try": (is_number,), "end": (), "prim": (is_operation,),
}
# The instructions whose last item is the place at which the frame may go on.
JUMPS = ("jump", "constructor", "integer", "exception", "try")


def is_instruction(value):
    """Whether the value is an instruction of the table."""
    if not value or not is_string(value[0]) or value[0] not in FORMS:
        return False
    form = FORMS[value[0]]
    if len(value) != 1 + len(form):
        return False
    for test, part in zip(form, value[1:]):
        if not test(part):
            return False
    return True


POPPED = {
    "store": 1, "drop": 1, "part": 1, "field": 1, "wrap": 1, "argument": 1, "call": 2, "tail": 2, "return": 1,
    "constructor": 1, "integer": 1, "exception": 2, "raise": 1,
}
PUSHING = (
    "int", "fixed", "slot", "captured", "tuple", "part", "record", "field", "con", "wrap", "argument", "closure",
    "sibling", "call", "new", "packet", "prim",
)


def popped(program, instruction):
    """How many operands an instruction pops; the function of a closure must be there."""
    tag = instruction[0]
    if tag == "tuple":
        return instruction[1]
    if tag == "record":
        return len(instruction[1])
    if tag == "closure":
        return program[instruction[1]][1]
    if tag == "packet":
        return 2 if instruction[1] else 1
    return operands(instruction[1]) if tag == "prim" else POPPED.get(tag, 0)


def pushed(instruction):
    """How many operands an instruction pushes in its own frame, a call as soon as it comes back."""
    return 1 if instruction[0] in PUSHING else 0


def missing_index(program, function, instruction):
    """What an instruction of the function needs and what does not exist: "slot", "captured" or "function", otherwise
    None."""
    _, captured, slots, _ = function
    tag = instruction[0]
    if tag in ("slot", "store"):
        return "slot" if instruction[1] >= slots else None
    if tag == "captured":
        return "captured" if instruction[1] >= captured else None
    if tag in ("closure", "sibling"):
        return "function" if instruction[1] >= len(program) else None
    return None
