"""Reports: shapes as they are written, and the lines of entries."""

from shapewright.context import lookup, space_of
from shapewright.sigs import named_stamp
from shapewright.terms import FREE, replaced, variables

LETTERS = "abcdefghijklmnopqrstuvwxyz"


class Namer:
    """Finds the names of stamps among entries, and keeps those that it has found."""

    def __init__(self, names):
        self.names = names
        self.paths = {}

    def named(self, stamp):
        """The path that is the name of a stamp, or None."""
        if stamp not in self.paths:
            self.paths[stamp] = self.first_path(self.names, stamp, ())
        return self.paths[stamp]

    def first_path(self, level, stamp, front):
        """The first path to a plain shape entry of the stamp in a level, if no later entry hides it."""
        for entry in level:
            if entry[0] == "shape" and named_stamp(entry) == stamp:
                path = (*front, entry[1])
                if lookup(self.names, "shape", path) == entry:
                    return path
        for entry in level:
            if entry[0] == "module":
                path = self.first_path(entry[2], stamp, (*front, entry[1]))
                if path is not None:
                    return path
        return None


def shape_text(names, shape):
    """The written form of a shape."""
    return text_of(Namer(names), shape)


def text_of(namer, shape):
    free = [number for number in variables(shape) if number >= FREE]
    return written(namer, shape, {number: f"'_{index}" for index, number in enumerate(free, start=1)})


def written(namer, shape, free):
    """The written form of a shape, where the free variables are written as the dict says."""
    tag = shape[0]
    if tag == "v":
        return free.get(shape[1]) or general_text(shape[1])
    if tag == "f":
        left = in_parentheses(namer, shape[1], free, ("f",))
        return f"{left} -> {written(namer, shape[2], free)}"
    if tag == "t":
        return " * ".join([in_parentheses(namer, part, free, ("f", "t")) for part in shape[1]])
    path = namer.named(shape[1])
    name = f"?{shape[1]}" if path is None else ".".join(path)
    if len(shape[2]) == 0:
        return name
    if len(shape[2]) == 1:
        arguments = in_parentheses(namer, shape[2][0], free, ("f", "t"))
    else:
        arguments = list_text([written(namer, part, free) for part in shape[2]])
    return f"{arguments} {name}"


def in_parentheses(namer, shape, free, tags):
    """The written form of a shape, in parentheses if it has one of the tags."""
    text = written(namer, shape, free)
    return f"({text})" if shape[0] in tags else text


def list_text(texts):
    joined = ", ".join(texts)
    return f"({joined})"


def general_text(number):
    """The written form of a general variable."""
    turn = number // len(LETTERS)
    letter = LETTERS[number % len(LETTERS)]
    return f"'{letter}{turn}" if turn > 0 else f"'{letter}"


def report(entries, names):
    """The lines of entries, in which the names of stamps are looked up in other entries."""
    return level_lines(Namer(names), entries, ())


def level_lines(namer, entries, front):
    """The lines of the entries of the module to which the path `front` leads."""
    last = {}
    for index, entry in enumerate(entries):
        last[space_of(entry), entry[1]] = index
    lines = []
    for index, entry in enumerate(entries):
        if last[space_of(entry), entry[1]] == index and entry[0] != "name":
            lines.extend(entry_lines(namer, entry, front))
    return lines


def entry_lines(namer, entry, front):
    tag, name = entry[0], entry[1]
    if tag == "val":
        return [f"val {name} : {text_of(namer, entry[2][1])}"]
    if tag == "con":
        return [f"con {name} : {text_of(namer, constructor_shape(entry))}"]
    if tag == "exn":
        return [f"exception {name}" if entry[2] is None else f"exception {name} of {text_of(namer, entry[2])}"]
    if tag == "shape":
        return [shape_line(namer, entry, front)]
    if tag == "module":
        inner = level_lines(namer, entry[2], (*front, name))
        return [f"module {name} = sig", *[f"  {line}" for line in inner], "end"]
    return [f"{tag} {name}"]


def constructor_shape(entry):
    """The shape of the scheme of a constructor. It is written even if it is too large to be used."""
    _, _, count, argument, result, _, _ = entry
    shape = result if argument is None else ("f", argument, result)
    general = [number for number in variables(shape) if number < count]
    return replaced(shape, {number: ("v", index) for index, number in enumerate(general)})


def shape_line(namer, entry, front):
    _, name, count, shape = entry
    head = f"{parameters_text(count)}{name}"
    stamp = named_stamp(entry)
    if stamp is not None and namer.named(stamp) == (*front, name):
        return f"shape {head}"
    return f"alias {head} = {text_of(namer, shape)}"


def parameters_text(count):
    """The written form of the parameters before the name of a shape."""
    texts = [general_text(number) for number in range(count)]
    if len(texts) > 1:
        return f"{list_text(texts)} "
    return "".join([f"{text} " for text in texts])
