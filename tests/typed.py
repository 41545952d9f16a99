"""Random expressions with right derivations: the shape is chosen first, then an expression that has it.

Nothing here searches for a shape. The variables of the shapes are opaque; they become general where a declaration
closes over them.
"""

import random

from deriver import BASIS
from shapewright.context import constructor_scheme, extended, free_variables, lookup
from shapewright.schemes import close, instantiate, match_instance
from shapewright.terms import BOOL, EXN, INT, UNIT, variables

SURFACES = {0: "int", 1: "unit", 2: "exn", 3: "ref", 4: "bool", 5: "list", 6: "option"}
GROUND = (INT, UNIT, BOOL, EXN)


class Typed:
    def __init__(self, seed, arities=BASIS[1]):
        self.random = random.Random(seed)
        self.arities = arities
        self.made = 0
        self.number = 1500000

    def fresh_name(self):
        self.made += 1
        return f"v{self.made}"

    def fresh(self):
        self.number += 1
        return ("v", self.number)

    def shape(self, deep, leaves=GROUND):
        roll = self.random.random()
        if deep <= 1 or roll < 0.4:
            return self.random.choice(leaves)
        if roll < 0.6:
            return ("c", self.random.choice([3, 5, 6]), (self.shape(deep - 1, leaves),))
        if roll < 0.8:
            return ("t", tuple(self.shape(deep - 1, leaves) for _ in range(self.random.choice([2, 2, 3]))))
        return ("f", self.shape(deep - 1, leaves), self.shape(deep - 1, leaves))

    def surface(self, shape, names):
        """The surface shape for a shape, or None if a variable has no name."""
        if shape[0] == "v":
            return ("svar", names[shape[1]]) if shape[1] in names else None
        parts = [self.surface(part, names) for part in (shape[1:] if shape[0] == "f" else shape[-1])]
        if None in parts:
            return None
        if shape[0] == "f":
            return ("sarrow", *parts)
        return ("stuple", tuple(parts)) if shape[0] == "t" else ("sname", (SURFACES[shape[1]],), tuple(parts))

    def names_in(self, context):
        return {entry[2][1]: entry[1] for entry in context[0] if entry[0] == "name"}

    def pattern(self, context, shape, deep):
        forms = ["pany", "pvar", "pvar", "pcon"]
        if deep > 1:
            forms += ["pas", "phas"]
        forms += {INT: ["pint"], UNIT: ["punit"]}.get(shape, [])
        if shape[0] == "t" and deep > 1:
            forms += ["ptuple"] * 4
        form = self.random.choice(forms)
        if form == "pcon":
            return self.constructor_pattern(context, shape, deep)
        if form == "ptuple":
            rows = [self.pattern(context, part, deep - 1) for part in shape[1]]
            return ("ptuple", tuple(row[0] for row in rows)), ("ptuple", shape, tuple(row[1] for row in rows)), tuple(b for row in rows for b in row[2])
        if form in ("pint", "punit"):
            return ((form, 4) if form == "pint" else (form,)), (form, shape), ()
        if form == "pas":
            name = self.fresh_name()
            inner, part, bindings = self.pattern(context, shape, deep - 1)
            return ("pas", name, inner), ("pas", shape, part), ((name, shape), *bindings)
        surface = self.surface(shape, self.names_in(context))
        if form == "phas" and surface is not None:
            inner, part, bindings = self.pattern(context, shape, deep - 1)
            return ("phas", inner, surface), ("phas", shape, part), bindings
        if form == "pvar":
            name = self.fresh_name()
            return ("pvar", name), ("pvar", shape), ((name, shape),)
        return ("pany",), ("pany", shape), ()

    def constructor_pattern(self, context, shape, deep):
        rows = []
        for name in ("True", "False", "Nil", "Cons", "None", "Some", "Match", "Div"):
            entry = lookup(context[0], "con", (name,))
            argument, result = (None, EXN) if entry[0] == "exn" else entry[3:5]
            count = 0 if entry[0] == "exn" else entry[2]
            args = match_instance((count, result), shape)
            if args is not None:
                rows.append((name, args, None if argument is None else instantiate((count, argument), args)))
        rows = [row for row in rows if deep > 1 or row[2] is None]
        if not rows:
            return ("pany",), ("pany", shape), ()
        name, args, argument = self.random.choice(rows)
        if argument is None:
            return ("pcon", (name,), None), ("pcon", shape, args), ()
        inner, part, bindings = self.pattern(context, argument, deep - 1)
        return ("pcon", (name,), inner), ("pcon", shape, args, part), bindings

    def leaves(self, context, shape):
        found = []
        for tag, space in (("var", "val"), ("con", "con")):
            for name in {entry[1] for entry in context[0] if entry[0] in ("val", "con", "exn")}:
                entry = lookup(context[0], space, (name,))
                if entry is not None:
                    args = match_instance(entry[2] if space == "val" else constructor_scheme(entry), shape)
                    if args is not None:
                        found.append(((tag, (name,)), (tag, shape, args)))
        found.sort()
        found += {INT: [(("int", 7), ("int", INT))], UNIT: [(("unit",), ("unit", UNIT))]}.get(shape, [])
        return found

    def expression(self, context, shape, deep):
        leaves = self.leaves(context, shape)
        if deep <= 1 and leaves or leaves and self.random.random() < 0.25:
            return self.random.choice(leaves)
        forms = ["app", "case", "raise", "handle", "has", "let", "let"]
        forms += {"f": ["fn"] * 6, "t": ["tuple"] * 6}.get(shape[0], [])
        if deep <= 1:
            forms = {"f": ["fn"], "t": ["tuple"]}.get(shape[0], ["raise"])
        return getattr(self, "make_" + self.random.choice(forms))(context, shape, deep - 1)

    def make_fn(self, context, shape, deep):
        rules, parts = self.rules(context, shape[1], shape[2], deep)
        return ("fn", rules), ("fn", shape, parts)

    def rules(self, context, start, result, deep):
        rules, parts = [], []
        for _ in range(self.random.choice([1, 1, 2])):
            pattern, first, bindings = self.pattern(context, start, max(1, min(deep, 3)))
            inner = extended(context, [("val", x, (0, s)) for x, s in bindings])
            expression, second = self.expression(inner, result, deep)
            rules.append((pattern, expression))
            parts.append((first, second))
        return tuple(rules), tuple(parts)

    def make_tuple(self, context, shape, deep):
        rows = [self.expression(context, part, deep) for part in shape[1]]
        return ("tuple", tuple(row[0] for row in rows)), ("tuple", shape, tuple(row[1] for row in rows))

    def make_app(self, context, shape, deep):
        start = self.shape(2)
        f, first = self.expression(context, ("f", start, shape), deep)
        a, second = self.expression(context, start, deep)
        return ("app", f, a), ("app", shape, first, second)

    def make_case(self, context, shape, deep):
        start = self.shape(2)
        e, first = self.expression(context, start, deep)
        rules, parts = self.rules(context, start, shape, deep)
        return ("case", e, rules), ("case", shape, first, parts)

    def make_raise(self, context, shape, deep):
        e, part = self.expression(context, EXN, deep) if deep > 1 else (("con", ("Match",)), ("con", EXN, ()))
        return ("raise", e), ("raise", shape, part)

    def make_handle(self, context, shape, deep):
        e, first = self.expression(context, shape, deep)
        rules, parts = self.rules(context, EXN, shape, deep)
        return ("handle", e, rules), ("handle", shape, first, parts)

    def make_has(self, context, shape, deep):
        surface = self.surface(shape, self.names_in(context))
        e, part = self.expression(context, shape, deep)
        return (e, part) if surface is None else (("has", e, surface), ("has", shape, part))

    def make_let(self, context, shape, deep):
        decs, parts = [], []
        for _ in range(self.random.choice([1, 1, 2])):
            dec, part, entries = getattr(self, "make_" + self.random.choice(["val", "val", "closed", "plain", "fixed", "exception"]))(context, deep)
            decs.append(dec)
            parts.append(part)
            context = extended(context, entries)
        e, body = self.expression(context, shape, deep)
        return ("let", tuple(decs), e), ("let", shape, tuple(parts), body)

    def make_exception(self, context, deep):
        shape = self.random.choice([None, INT, ("c", 5, (INT,))])
        surface = None if shape is None else self.surface(shape, {})
        return ("exception", "X", surface), ("exception",), (("exn", "X", shape),)

    def make_val(self, context, deep):
        shape = self.shape(2)
        e, second = self.make_app(context, shape, deep)
        pattern, first, bindings = self.pattern(context, shape, 3)
        return ("val", pattern, e), ("val", first, second), tuple(("val", x, (0, s)) for x, s in bindings)

    def open_shape(self):
        leaves = (self.fresh(), self.fresh(), INT)
        return ("f", self.shape(2, leaves), self.shape(2, leaves))

    def make_closed(self, context, deep):
        shape = self.open_shape()
        name = self.fresh_name()
        e, part = self.make_fn(context, shape, deep)
        fixed = free_variables(context[0])
        return ("val", ("pvar", name), e), ("val", ("pvar", shape), part), (("val", name, close(shape, fixed)),)

    def make_plain(self, context, deep):
        shape, name = self.open_shape(), self.fresh_name()
        inner = extended(context, [("val", name, (0, shape))])
        (_, rules), part = self.make_fn(inner, shape, deep)
        entry = ("val", name, close(shape, free_variables(context[0])))
        return ("rec", ((name, None, rules),)), ("rec", (("plain", part),)), (entry,)

    def make_fixed(self, context, deep):
        shape, name = self.open_shape(), self.fresh_name()
        numbers = variables(shape)
        outer = self.names_in(context)
        names = {number: f"a{number - 1500000}" for number in numbers}
        surface = self.surface(shape, {**outer, **names})
        entry = ("val", name, close(shape, ()))
        inner = extended(context, [entry, *[("name", a, ("v", number)) for number, a in names.items()]])
        (_, rules), part = self.make_fn(inner, shape, deep)
        return ("rec", ((name, (tuple(names.values()), surface), rules),)), ("rec", (("fixed", numbers, part),)), (entry,)
