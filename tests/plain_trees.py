"""Random closed plain trees of all forms, for the meaning, the compiler and the machines.

A kind says what a value is made of; expressions are made for a kind, so that few runs are stuck. Kinds are "int",
("con", family, argument kinds), ("tuple", kinds), ("record", pairs of label and kind), ("fun", kind, kind),
("exn", kind or None), "packet" and ("ref", kind).
"""

import random

BOOL = (("False", False), ("True", False))
LIST = (("Nil", False), ("Cons", True))
OPTION = (("None", False), ("Some", True))
BOOL_KIND = ("con", BOOL, (None, None))
UNIT_KIND = ("tuple", ())
INTS = ("con", LIST, (None, ("tuple", ("int", "rest"))))


def option(kind):
    return ("con", OPTION, (None, kind))


def inner_kind(kind, part):
    """A part of a kind, where "rest" is the kind of the list itself."""
    return kind if part == "rest" else ("tuple", tuple(inner_kind(kind, one) for one in part[1])) if isinstance(part, tuple) and part[0] == "tuple" else part


class PlainTrees:
    def __init__(self, seed):
        self.random = random.Random(seed)
        self.made = 0

    def name(self, word="x"):
        self.made += 1
        # Few names, so that variables hide each other.
        return f"{word}{self.made % 7}"

    def kind(self, deep):
        roll = self.random.random()
        if deep <= 0 or roll < 0.3:
            return self.random.choice(["int", "int", BOOL_KIND, UNIT_KIND, "packet", ("exn", None), ("exn", "int"), INTS])
        if roll < 0.45:
            return ("tuple", tuple(self.kind(deep - 1) for _ in range(self.random.choice([2, 2, 3]))))
        if roll < 0.55:
            return ("record", tuple((f"l{k}", self.kind(deep - 1)) for k in range(self.random.randrange(3))))
        if roll < 0.75:
            return ("fun", self.kind(deep - 1), self.kind(deep - 1))
        if roll < 0.85:
            return ("ref", self.kind(deep - 1))
        return option(self.kind(deep - 1))

    def tree(self, deep):
        return self.expression(self.kind(2), {}, deep)

    def expression(self, kind, scope, deep):
        known = [name for name in scope if scope[name] == kind]
        if known and self.random.random() < (0.7 if deep <= 0 else 0.25):
            return ("var", self.random.choice(sorted(known)))
        if deep <= 0:
            return self.value(kind, scope, deep)
        forms = ["value"] * 4 + ["app", "let", "rec", "match", "handle", "guarded", "field", "fetch", "raise"]
        if kind == "int":
            forms += ["arithmetic"] * 3
        if kind == BOOL_KIND:
            forms += ["compare"] * 3
        if kind == UNIT_KIND:
            forms += ["effect"] * 3
        return getattr(self, self.random.choice(forms))(kind, scope, deep - 1)

    def value(self, kind, scope, deep):
        """An expression that is made as its kind says."""
        if kind == "int":
            return ("int", self.random.choice([0, 1, 2, 3, -1, 2147483647, -2147483648]))
        if kind == "packet":
            argument = self.random.choice([None, "int"])
            inner = None if argument is None else self.expression(argument, scope, deep)
            return ("packet", self.expression(("exn", argument), scope, deep), inner)
        tag = kind[0]
        if tag == "con":
            k = self.random.randrange(len(kind[1])) if deep > 0 else 0
            part = kind[2][k]
            return ("con", kind[1], k, None if part is None else self.expression(inner_kind(kind, part), scope, deep))
        if tag == "tuple":
            return ("tuple", tuple(self.expression(part, scope, deep) for part in kind[1]))
        if tag == "record":
            return ("record", tuple((label, self.expression(part, scope, deep)) for label, part in kind[1]))
        if tag == "fun":
            name = self.name()
            return ("fn", name, self.expression(kind[2], {**scope, name: kind[1]}, deep))
        if tag == "exn":
            if kind[1] is None and self.random.random() < 0.5:
                return ("fixed", self.random.randrange(4))
            return ("exception", self.random.choice(["E", "Other"]))
        return ("prim", "ref", (self.expression(kind[1], scope, deep),))

    def app(self, kind, scope, deep):
        start = self.kind(1)
        return ("app", self.expression(("fun", start, kind), scope, deep), self.expression(start, scope, deep))

    def let(self, kind, scope, deep):
        start, name = self.kind(2), self.name()
        return ("let", name, self.expression(start, scope, deep), self.expression(kind, {**scope, name: start}, deep))

    def rec(self, kind, scope, deep):
        count = self.random.choice([1, 1, 2, 3])
        names = [f"f{k}" for k in range(count)]
        kinds = [("fun", self.kind(1), self.kind(1)) for _ in names]
        inner = {**scope, **dict(zip(names, kinds))}
        functions = []
        for name, (_, start, result) in zip(names, kinds):
            parameter = self.random.choice([self.name(), self.name(), name])
            functions.append((name, parameter, self.expression(result, {**inner, parameter: start}, deep)))
        return ("rec", tuple(functions), self.expression(kind, inner, deep))

    def rows(self, start, kind, scope, deep):
        rows = []
        for _ in range(self.random.choice([1, 2, 2, 3])):
            bound = {}
            pattern = self.pattern(start, scope, bound, 2)
            rows.append((pattern, self.expression(kind, {**scope, **bound}, deep)))
        return tuple(rows)

    def match(self, kind, scope, deep):
        start = self.kind(2)
        return ("match", self.expression(start, scope, deep), self.rows(start, kind, scope, deep), self.random.choice(["Match", "Bind"]))

    def handle(self, kind, scope, deep):
        return ("handle", self.expression(kind, scope, deep), self.rows("packet", kind, scope, deep))

    def guarded(self, kind, scope, deep):
        """A packet of a new exception, or of an earlier one, is raised or passed on, and rows ask for it."""
        argument = self.random.choice([None, "int"])
        names = {self.name("e"): ("exn", argument), **({"f9": ("exn", None)} if self.random.random() < 0.5 else {})}
        inner = {**scope, **names}
        if self.random.random() < 0.5:
            tree = ("handle", self.expression(kind, inner, deep), self.rows("packet", kind, inner, deep))
        else:
            tree = ("match", self.expression("packet", inner, deep), self.rows("packet", kind, inner, deep), "Match")
        for name in names:
            tree = ("let", name, self.value(names[name], scope, deep), tree)
        return tree

    def pattern(self, kind, scope, bound, deep):
        roll = self.random.random()
        if roll < 0.2:
            return ("any",)
        if roll < 0.45:
            name = f"p{len(bound)}"
            bound[name] = kind
            return ("as", name, self.pattern(kind, scope, bound, deep)) if roll < 0.25 else ("var", name)
        if kind == "int":
            return ("int", self.random.choice([0, 1, 2]))
        if kind == "packet":
            known = [name for name in sorted(scope) if scope[name] in (("exn", None), ("exn", "int"))]
            if not known:
                return ("any",)
            name = self.random.choice(known)
            part = scope[name][1]
            return ("packet", ("var", name), None if part is None else self.pattern(part, scope, bound, deep - 1))
        if kind[0] == "tuple" and deep > 0:
            return ("tuple", tuple(self.pattern(part, scope, bound, deep - 1) for part in kind[1]))
        if kind[0] == "con":
            k = self.random.randrange(len(kind[1]))
            part = kind[2][k]
            if part is None or deep > 0:
                return ("con", kind[1], k, None if part is None else self.pattern(inner_kind(kind, part), scope, bound, deep - 1))
        return ("any",)

    def field(self, kind, scope, deep):
        record = ("record", (("a", kind), ("b", self.kind(1))))
        return ("field", "a", self.expression(record, scope, deep))

    def fetch(self, kind, scope, deep):
        return ("prim", "fetch", (self.expression(("ref", kind), scope, deep),))

    def make_raise(self, kind, scope, deep):
        return ("raise", self.expression("packet", scope, deep))

    def arithmetic(self, kind, scope, deep):
        name = self.random.choice(["add", "sub", "mul", "div", "mod", "neg"])
        count = 1 if name == "neg" else 2
        return ("prim", name, tuple(self.expression("int", scope, deep) for _ in range(count)))

    def compare(self, kind, scope, deep):
        name = self.random.choice(["less", "leq", "equal", "equal"])
        start = self.kind(2) if name == "equal" else "int"
        return ("prim", name, (self.expression(start, scope, deep), self.expression(start, scope, deep)))

    def effect(self, kind, scope, deep):
        if self.random.random() < 0.5:
            return ("prim", "print", (self.expression("int", scope, deep),))
        start = self.kind(1)
        return ("prim", "assign", (self.expression(("ref", start), scope, deep), self.expression(start, scope, deep)))


setattr(PlainTrees, "raise", PlainTrees.make_raise)


def plain_trees(count, deep=4, start=0):
    """So many random closed plain trees, the same ones in every run."""
    return [PlainTrees(start + seed).tree(deep) for seed in range(count)]
