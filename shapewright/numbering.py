"""The numbers that a machine gives to the names and to the tuples of labels of its program."""

FIRST_NAMES = ("Match", "Bind", "Div", "Equality", "False", "True")


def numbered_names(program):
    """The names of constructors and exceptions in the order of their numbers, as keys with their numbers."""
    numbers = {name: number for number, name in enumerate(FIRST_NAMES)}
    for instruction in instructions_of(program):
        if instruction[0] in ("con", "wrap", "new"):
            numbers.setdefault(instruction[-1], len(numbers))
    return numbers


def numbered_labels(program):
    """The tuples of labels in the order of their numbers, as keys with their numbers."""
    numbers = {}
    for instruction in instructions_of(program):
        if instruction[0] == "record":
            numbers.setdefault(instruction[1], len(numbers))
    return numbers


def instructions_of(program):
    found = []
    for function in program:
        found.extend(function[3])
    return found
