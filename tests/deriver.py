"""Makes right derivations for declarations that have a shape, to try the judge on larger ones.

The way is the one of 4.8, with a dict of what is known of the variables; it is written for the tests only.
"""

from shapewright.context import constructor_scheme, extended, free_variables, lookup, settle
from shapewright.judge import is_expansive
from shapewright.reader import read_program
from shapewright.schemes import close, instantiate
from shapewright.terms import ARITIES, BOOL, EXN, FREE, INT, UNIT, parts_of_shape, variables
from shapewright.variants import declare, elaborate, elaborate_scheme

G0 = ("v", 0)
LIST, OPTION, REF = [("c", stamp, (G0,)) for stamp in (5, 6, 3)]
BOOLS, LISTS, OPTIONS = (("False", False), ("True", False)), (("Nil", False), ("Cons", True)), (("None", False), ("Some", True))
INTS = ("t", (INT, INT))


def function(*shapes):
    return ("f", shapes[0] if len(shapes) == 2 else ("t", shapes[:-1]), shapes[-1])


BASIS = ((
    ("shape", "int", 0, INT), ("shape", "unit", 0, UNIT), ("shape", "exn", 0, EXN), ("shape", "ref", 1, REF), ("shape", "bool", 0, BOOL), ("shape", "list", 1, LIST), ("shape", "option", 1, OPTION),
    ("con", "False", 0, None, BOOL, 0, BOOLS), ("con", "True", 0, None, BOOL, 1, BOOLS), ("con", "Nil", 1, None, LIST, 0, LISTS), ("con", "Cons", 1, ("t", (G0, LIST)), LIST, 1, LISTS),
    ("con", "None", 1, None, OPTION, 0, OPTIONS), ("con", "Some", 1, G0, OPTION, 1, OPTIONS), ("exn", "Match", None), ("exn", "Div", None),
    *[("val", name, (0, function(INT, INT, INT))) for name in ("+", "-", "*")], ("val", "=", (1, function(G0, G0, BOOL))), ("val", "ref", (1, function(G0, REF))),
    ("val", "!", (1, function(REF, G0))), ("val", ":=", (1, function(REF, G0, UNIT))), ("val", "@", (1, function(LIST, LIST, LIST))),
), ARITIES)


class Deriver:
    def __init__(self):
        self.made = FREE + 5000
        self.known = {}

    def fresh(self):
        self.made += 1
        return ("v", self.made)

    def now(self, shape):
        """The shape with everything replaced that is known."""
        if shape[0] == "v":
            return self.now(self.known[shape[1]]) if shape[1] in self.known else shape
        if shape[0] == "f":
            return ("f", self.now(shape[1]), self.now(shape[2]))
        return (*shape[:-1], tuple(self.now(part) for part in shape[-1]))

    def equal(self, left, right):
        left, right = self.now(left), self.now(right)
        if right[0] == "v" and left[0] != "v":
            left, right = right, left
        if left == right:
            return
        if left[0] == "v":
            assert left[1] not in variables(right)
            self.known[left[1]] = right
            return
        assert left[0] == right[0] and (left[0] != "c" or left[1] == right[1])
        for first, second in zip(parts_of_shape(left), parts_of_shape(right), strict=True):
            self.equal(first, second)

    def context_now(self, context):
        return settle(context[0], {v: self.now(("v", v)) for v in free_variables(context[0])}), context[1]

    def instance(self, scheme):
        shapes = tuple(self.fresh() for _ in range(scheme[0]))
        return shapes, instantiate((scheme[0], self.now(scheme[1])), shapes)

    def pattern(self, context, pattern):
        tag = pattern[0]
        if tag == "pvar":
            shape = self.fresh()
            return ("pvar", shape), ((pattern[1], shape),)
        if tag in ("pany", "pint", "punit"):
            return (tag, {"pany": self.fresh(), "pint": INT, "punit": UNIT}[tag]), ()
        if tag == "pcon":
            shapes, shape = self.instance(constructor_scheme(lookup(context[0], "con", pattern[1])))
            if pattern[2] is None:
                return ("pcon", shape, shapes), ()
            inner, bindings = self.pattern(context, pattern[2])
            self.equal(inner[1], shape[1])
            return ("pcon", shape[2], shapes, inner), bindings
        if tag == "ptuple":
            pairs = [self.pattern(context, part) for part in pattern[1]]
            parts = tuple(part for part, _ in pairs)
            return ("ptuple", ("t", tuple(part[1] for part in parts)), parts), tuple(b for _, bs in pairs for b in bs)
        if tag == "pas":
            inner, bindings = self.pattern(context, pattern[2])
            return ("pas", inner[1], inner), ((pattern[1], inner[1]), *bindings)
        inner, bindings = self.pattern(context, pattern[1])
        self.equal(inner[1], elaborate(context, (), pattern[2]))
        return ("phas", inner[1], inner), bindings

    def rules(self, context, rules, start, result):
        parts = []
        for pattern, expression in rules:
            first, bindings = self.pattern(context, pattern)
            self.equal(first[1], start)
            second = self.expression(extended(context, [("val", x, (0, shape)) for x, shape in bindings]), expression)
            self.equal(second[1], result)
            parts.append((first, second))
        return tuple(parts)

    def expression(self, context, expression):
        tag = expression[0]
        if tag in ("int", "unit"):
            return (tag, INT if tag == "int" else UNIT)
        if tag in ("var", "con"):
            entry = lookup(context[0], "val" if tag == "var" else "con", expression[1])
            shapes, shape = self.instance(entry[2] if tag == "var" else constructor_scheme(entry))
            return (tag, shape, shapes)
        if tag == "fn":
            start, result = self.fresh(), self.fresh()
            return ("fn", ("f", start, result), self.rules(context, expression[1], start, result))
        if tag == "tuple":
            parts = tuple(self.expression(context, part) for part in expression[1])
            return ("tuple", ("t", tuple(part[1] for part in parts)), parts)
        if tag == "let":
            parts = []
            for declaration in expression[1]:
                entries, _, part = self.declaration(context, declaration)
                context = extended(context, entries)
                parts.append(part)
            body = self.expression(context, expression[2])
            return ("let", body[1], tuple(parts), body)
        inner = self.expression(context, expression[1])
        if tag == "app":
            argument, result = self.expression(context, expression[2]), self.fresh()
            self.equal(inner[1], ("f", argument[1], result))
            return ("app", result, inner, argument)
        if tag == "case":
            result = self.fresh()
            return ("case", result, inner, self.rules(context, expression[2], inner[1], result))
        if tag == "handle":
            return ("handle", inner[1], inner, self.rules(context, expression[2], EXN, inner[1]))
        self.equal(inner[1], EXN if tag == "raise" else elaborate(context, (), expression[2]))
        return (tag, self.fresh() if tag == "raise" else inner[1], inner)

    def declaration(self, context, declaration):
        if declaration[0] == "rec":
            return self.rec(context, declaration[1])
        if declaration[0] != "val":
            return (*declare(context, declaration), (declaration[0],))
        pattern, bindings = self.pattern(context, declaration[1])
        expression = self.expression(context, declaration[2])
        self.equal(pattern[1], expression[1])
        fixed = free_variables(self.context_now(context)[0])
        schemes = [(x, self.now(shape)) for x, shape in bindings]
        if is_expansive(declaration[2]):
            entries = tuple(("val", x, (0, shape)) for x, shape in schemes)
        else:
            entries = tuple(("val", x, close(shape, fixed)) for x, shape in schemes)
        return entries, context[1], ("val", pattern, expression)

    def rec(self, context, bindings):
        shapes = [self.fresh() for _ in bindings]
        schemes = [(0, shape) if b[1] is None else elaborate_scheme(context, b[1]) for b, shape in zip(bindings, shapes)]
        inner = extended(context, [("val", b[0], scheme) for b, scheme in zip(bindings, schemes)])
        parts = []
        for (_, annotation, rules), shape in zip(bindings, shapes):
            if annotation is None:
                derivation = self.expression(inner, ("fn", rules))
                self.equal(derivation[1], shape)
                parts.append(("plain", derivation))
            else:
                numbers = [self.fresh() for _ in annotation[0]]
                named = extended(inner, [("name", a, number) for a, number in zip(annotation[0], numbers)])
                derivation = self.expression(named, ("fn", rules))
                self.equal(derivation[1], elaborate(named, (), annotation[1]))
                parts.append(("fixed", tuple(numbers), derivation))
        fixed = free_variables(self.context_now(context)[0])
        closed = [close(self.now(s), fixed) if b[1] is None else k for b, s, k in zip(bindings, shapes, schemes)]
        return tuple(("val", b[0], k) for b, k in zip(bindings, closed)), context[1], ("rec", tuple(parts))

    def settled(self, value):
        """The derivation with everything replaced that is known."""
        if not isinstance(value, tuple) or not value:
            return value
        if value[0] == "fixed":
            return ("fixed", tuple(self.now(number)[1] for number in value[1]), self.settled(value[2]))
        if value[0] in ("v", "c", "t", "f"):
            return self.now(value)
        return tuple(self.settled(part) for part in value)


def derive(context, text):
    """The declaration of a text, what it declares, and a right derivation for it."""
    declaration = read_program(text)[0]
    deriver = Deriver()
    entries, arities, derivation = deriver.declaration(context, declaration)
    settled = [("val", e[1], (e[2][0], deriver.now(e[2][1]))) if e[0] == "val" else e for e in entries]
    return declaration, (tuple(settled), arities), deriver.settled(derivation)
