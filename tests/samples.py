"""Random well-formed trees, shapes and texts for the tests; the same ones in every run."""

import random

SMALL = ("a", "b", "x", "y", "f", "list", "int", "t", "aVeryLongName_16", "z9_")
CAPITAL = ("A", "B", "C", "S", "Cons", "True", "X_1", "AVeryLongName_16")
INFIX = ("*", "div", "mod", "+", "-", "@", "=", "<>", "<", "<=", ">", ">=", ":=")
OPERATORS = INFIX + ("~", "!")
NUMBERS = (0, 1, 7, -1, -10, 2147483647, -2147483648, 42)


class Maker:
    """Makes trees with at most `nodes` nodes that are at most `deep` deep."""

    def __init__(self, seed, nodes=60, deep=8):
        self.random = random.Random(seed)
        self.nodes = nodes
        self.deep = deep
        self.left = nodes
        self.bound = None

    def tree(self, kind):
        self.left = self.nodes
        return getattr(self, kind)(self.deep)

    def pick(self, values):
        return self.random.choice(values)

    def some(self, low, high, deep):
        """How many parts to make: few, and none beyond what is needed where the bounds are near."""
        if deep <= 2 or self.left < 12:
            return low
        return min(high, low + int(self.random.expovariate(0.7)))

    def spend(self, deep):
        self.left -= 1
        return deep <= 1 or self.left < 12

    def small(self):
        return self.pick(SMALL)

    def capital(self):
        return self.pick(CAPITAL)

    def value_name(self):
        return self.pick(OPERATORS) if self.random.random() < 0.25 else self.small()

    def path(self, last):
        count = self.pick((0, 0, 0, 1, 2, 5))
        return (*[self.capital() for _ in range(count)], last)

    def names(self):
        return tuple(self.small() for _ in range(self.pick((0, 0, 1, 2, 4))))

    def number(self):
        return self.pick(NUMBERS)

    # Shapes

    def shape(self, deep):
        if self.spend(deep):
            return self.pick((("svar", self.small()), ("sname", self.path(self.small()), ())))
        tag = self.pick(("svar", "sname", "sname", "stuple", "sarrow"))
        if tag == "svar":
            return ("svar", self.small())
        if tag == "sname":
            count = self.some(0, 4, deep)
            return ("sname", self.path(self.small()), tuple(self.shape(deep - 1) for _ in range(count)))
        if tag == "stuple":
            return ("stuple", tuple(self.shape(deep - 1) for _ in range(self.some(2, 6, deep))))
        return ("sarrow", self.shape(deep - 1), self.shape(deep - 1))

    def maybe_shape(self, deep):
        return self.pick((None, self.shape(deep)))

    def scheme(self, deep):
        return self.names(), self.shape(deep)

    # Patterns

    def pattern(self, deep):
        outer, self.bound = self.bound, set()
        made = self.inner_pattern(deep)
        self.bound = outer
        return made

    def variable(self):
        name = self.value_name()
        if name in self.bound:
            return None
        self.bound.add(name)
        return name

    def inner_pattern(self, deep):
        if self.spend(deep):
            return self.leaf_pattern()
        tag = self.pick(("leaf", "pcon", "pcon", "cons", "ptuple", "pas", "phas"))
        if tag == "pcon":
            return ("pcon", self.path(self.capital()), self.inner_pattern(deep - 1))
        if tag == "cons" and deep > 2:
            pair = (self.inner_pattern(deep - 2), self.inner_pattern(deep - 2))
            return ("pcon", ("Cons",), ("ptuple", pair))
        if tag == "ptuple":
            return ("ptuple", tuple(self.inner_pattern(deep - 1) for _ in range(self.some(2, 6, deep))))
        if tag == "phas":
            return ("phas", self.inner_pattern(deep - 1), self.shape(deep - 1))
        name = self.variable() if tag == "pas" else None
        return self.leaf_pattern() if name is None else ("pas", name, self.inner_pattern(deep - 1))

    def leaf_pattern(self):
        name = self.variable()
        made = [("pany",), ("punit",), ("pint", self.number()), ("pcon", self.path(self.capital()), None)]
        return self.pick(made if name is None else [("pvar", name)] * 3 + made)

    # Expressions

    def expression(self, deep):
        if self.spend(deep):
            return self.leaf_expression()
        tags = ("leaf", "fn", "app", "app", "infix", "tuple", "let", "case", "raise", "handle", "has")
        return getattr(self, "make_" + self.pick(tags))(deep - 1)

    def leaf_expression(self):
        return self.pick((
            ("int", self.number()), ("unit",), ("var", self.path(self.value_name())), ("con", self.path(self.capital())),
        ))

    def make_leaf(self, deep):
        return self.leaf_expression()

    def rules(self, deep):
        count = self.some(1, 8, deep)
        return tuple((self.pattern(deep), self.expression(deep)) for _ in range(count))

    def make_fn(self, deep):
        return ("fn", self.rules(deep))

    def make_app(self, deep):
        return ("app", self.expression(deep), self.expression(deep))

    def make_infix(self, deep):
        if deep < 2:
            return self.leaf_expression()
        function = self.pick([("con", ("Cons",)), ("con", ("S", "Cons"))] + [("var", (o,)) for o in OPERATORS])
        count = self.pick((2, 2, 2, 2, 3))
        return ("app", function, ("tuple", tuple(self.expression(deep - 1) for _ in range(count))))

    def make_tuple(self, deep):
        return ("tuple", tuple(self.expression(deep) for _ in range(self.some(2, 6, deep))))

    def make_let(self, deep):
        return ("let", tuple(self.local(deep) for _ in range(self.some(1, 12, deep))), self.expression(deep))

    def make_case(self, deep):
        return ("case", self.expression(deep), self.rules(deep))

    def make_raise(self, deep):
        return ("raise", self.expression(deep))

    def make_handle(self, deep):
        return ("handle", self.expression(deep), self.rules(deep))

    def make_has(self, deep):
        return ("has", self.expression(deep), self.shape(deep))

    # Declarations

    def local(self, deep):
        self.left -= 1
        if deep <= 1:
            return ("exception", self.capital(), None)
        tag = self.pick(("val", "val", "rec", "alias", "exception"))
        if tag == "val":
            return ("val", self.pattern(deep - 1), self.expression(deep - 1))
        if tag == "rec":
            return ("rec", tuple(self.binding(deep - 1) for _ in range(self.some(1, 6, deep))))
        if tag == "alias":
            return self.alias(deep - 1)
        return ("exception", self.capital(), self.maybe_shape(deep - 1))

    def binding(self, deep):
        annotation = self.pick((None, self.scheme(deep)))
        return self.value_name(), annotation, self.rules(deep)

    def alias(self, deep):
        return ("alias", self.names(), self.small(), self.shape(deep))

    def variant(self, deep):
        return ("variant", tuple(self.element(deep) for _ in range(self.some(1, 4, deep))))

    def element(self, deep):
        count = self.some(1, 12, deep)
        return self.names(), self.small(), tuple((self.capital(), self.maybe_shape(deep)) for _ in range(count))

    def declaration(self, deep):
        self.left -= 1
        if deep <= 2:
            return ("open", self.path(self.capital()))
        tag = self.pick(("local", "local", "variant", "module", "functor", "open"))
        if tag == "local":
            return self.local(deep)
        if tag == "variant":
            return self.variant(deep - 1)
        if tag == "module":
            return ("module", self.capital(), self.module(deep - 1))
        if tag == "functor":
            signature = self.signature(deep - 1)
            return ("functor", self.capital(), self.capital(), signature, self.module(deep - 1))
        return ("open", self.path(self.capital()))

    def module(self, deep):
        if self.spend(deep):
            return self.pick((("struct", ()), ("mpath", self.path(self.capital()))))
        tag = self.pick(("struct", "struct", "mpath", "apply", "sees", "seals", "mlet"))
        if tag == "struct":
            return ("struct", tuple(self.declaration(deep - 1) for _ in range(self.some(0, 12, deep))))
        if tag == "apply":
            return ("apply", self.path(self.capital()), self.module(deep - 1))
        if tag in ("sees", "seals"):
            return (tag, self.module(deep - 1), self.signature(deep - 1))
        if tag == "mlet":
            declarations = tuple(self.declaration(deep - 1) for _ in range(self.some(1, 12, deep)))
            return ("mlet", declarations, self.module(deep - 1))
        return ("mpath", self.path(self.capital()))

    def signature(self, deep):
        if self.spend(deep):
            return self.pick((("sig", ()), ("gname", self.capital())))
        tag = self.pick(("sig", "sig", "gname", "where"))
        if tag == "sig":
            return ("sig", tuple(self.spec(deep - 1) for _ in range(self.some(0, 12, deep))))
        if tag == "where":
            inner = self.signature(deep - 1)
            return ("where", inner, self.path(self.small()), self.names(), self.shape(deep - 1))
        return ("gname", self.capital())

    def spec(self, deep):
        self.left -= 1
        if deep <= 1:
            return ("shape", self.names(), self.small())
        tag = self.pick(("val", "shape", "alias", "variant", "exception", "module", "include"))
        if tag == "val":
            return ("val", self.value_name(), self.scheme(deep - 1))
        if tag == "alias":
            return self.alias(deep - 1)
        if tag == "variant":
            return self.variant(deep - 1)
        if tag == "exception":
            return ("exception", self.capital(), self.maybe_shape(deep - 1))
        if tag == "module":
            return ("module", self.capital(), self.signature(deep - 1))
        if tag == "include":
            return ("include", self.signature(deep - 1))
        return ("shape", self.names(), self.small())

    def program(self, deep):
        made = []
        for _ in range(self.some(0, 12, deep)):
            if self.random.random() < 0.2:
                self.left -= 1
                made.append(("signature", self.capital(), self.signature(deep - 1)))
            else:
                made.append(self.declaration(deep))
        return tuple(made)
