"""The values of the meaning: equality, primitive operations, the written form."""

from shapewright.integers import GREATEST_INTEGER, LEAST_INTEGER

UNIT = ("tuple", ())
FALSE = ("con", 0, "False", None)
TRUE = ("con", 1, "True", None)
FIXED_NAMES = ("Match", "Bind", "Div", "Equality")
DIV = ("packet", 2, "Div", None)
EQUALITY = ("packet", 3, "Equality", None)
RANGE = 4294967296


def wrap(n):
    """The integer, brought into the range by a multiple of its length."""
    if LEAST_INTEGER <= n <= GREATEST_INTEGER:
        return n
    return (n - LEAST_INTEGER) % RANGE + LEAST_INTEGER


def equal(first, second):
    """Whether two values are equal; None if that is not said of such values."""
    return equal_by(first, second, lambda value: value)


def equal_by(first, second, look):
    """Whether two values are equal, where `look` gives the outside of a value. Values may be deeper than the calls of
    Python can be nested."""
    waiting = [(first, second)]
    while waiting:
        left, right = waiting.pop()
        left, right = look(left), look(right)
        result = equal_outside(left, right)
        if result is not True:
            return result
        if left[0] == "tuple":
            waiting.extend(list(zip(left[1], right[1]))[::-1])
        elif left[0] == "con" and left[3] is not None:
            waiting.append((left[3], right[3]))
    return True


def equal_outside(left, right):
    """What is known of the equality of two values before their parts are looked at."""
    tag = left[0]
    if tag != right[0]:
        return None
    if tag in ("int", "ref"):
        return left[1] == right[1]
    if tag == "tuple":
        return True if len(left[1]) == len(right[1]) else None
    if tag != "con":
        return None
    if left[1] != right[1]:
        return False
    return True if (left[3] is None) == (right[3] is None) else None


def boolean(holds):
    return TRUE if holds else FALSE


def given(value, store):
    return ("give", value, store, ())


def stuck(store):
    return ("stuck", "operand", store, ())


def operate(name, operands, store):
    """What a primitive operation does with its operands."""
    if name == "equal":
        result = equal(operands[0], operands[1])
        return ("throw", EQUALITY, store, ()) if result is None else given(boolean(result), store)
    if name == "ref":
        return given(("ref", len(store)), (*store, operands[0]))
    if name in ("fetch", "assign"):
        return operate_reference(operands, store)
    if not all([operand[0] == "int" for operand in operands]):
        return stuck(store)
    if name == "print":
        return ("give", UNIT, store, (operands[0][1],))
    return operate_integers(name, [operand[1] for operand in operands], store)


def operate_reference(operands, store):
    """Reads the place of a reference, or puts a second operand there."""
    if operands[0][0] != "ref":
        return stuck(store)
    place = operands[0][1]
    if len(operands) == 1:
        return given(store[place], store)
    return given(UNIT, (*store[:place], operands[1], *store[place + 1:]))


def operate_integers(name, numbers, store):
    if name in ("div", "mod") and numbers[1] == 0:
        return ("throw", DIV, store, ())
    if name == "less":
        return given(boolean(numbers[0] < numbers[1]), store)
    if name == "leq":
        return given(boolean(numbers[0] <= numbers[1]), store)
    return given(("int", wrap(computed(name, numbers))), store)


def computed(name, numbers):
    """The result of an arithmetic operation, before it is brought into the range."""
    if name == "neg":
        return -numbers[0]
    first, second = numbers
    if name == "add":
        return first + second
    if name == "sub":
        return first - second
    if name == "mul":
        return first * second
    return first // second if name == "div" else first % second


def show(value, store, limit):
    """The written form of a value, of which only so many parts are written out."""
    return show_by(value, limit, lambda part: part, lambda place: store[place])


def show_by(value, limit, look, held):
    """The written form of a value, where `look` gives the outside of a value, and `held` the value at a place."""
    written = []
    count = 0
    waiting = [("whole", value)]
    while waiting:
        word, part = waiting.pop()
        if word == "text":
            written.append(part)
        elif count >= limit:
            written.append("..")
        else:
            count += 1
            part = look(part)
            pieces = pieces_of(part, held)
            if word == "argument" and needs_parentheses(part):
                pieces = [("text", "("), *pieces, ("text", ")")]
            waiting.extend(pieces[::-1])
    return "".join(written)


def needs_parentheses(value):
    """Whether a value is put in parentheses where it is an argument."""
    return value[0] == "ref" or (value[0] in ("con", "packet") and value[3] is not None)


def pieces_of(value, held):
    """The texts and parts of which the written form of a value is made, from the left."""
    tag = value[0]
    if tag == "int":
        return [("text", str(value[1]) if value[1] >= 0 else f"~{-value[1]}")]
    if tag == "tuple":
        return [("text", "("), *separated([[("whole", item)] for item in value[1]]), ("text", ")")]
    if tag == "record":
        fields = [[("text", f"{label} = "), ("whole", part)] for label, part in value[1]]
        return [("text", "{"), *separated(fields), ("text", "}")]
    if tag == "ref":
        return [("text", "ref "), ("argument", held(value[1]))]
    if tag == "exn":
        return [("text", value[2])]
    if tag not in ("con", "packet"):
        return [("text", "fn")]
    if value[3] is None:
        return [("text", value[2])]
    return [("text", f"{value[2]} "), ("argument", value[3])]


def separated(rows):
    """The pieces of all rows, with commas between the rows."""
    pieces = []
    for row in rows:
        if pieces:
            pieces.append(("text", ", "))
        pieces.extend(row)
    return pieces
