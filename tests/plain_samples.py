"""Random patterns and values for the cases: everything in one column has one kind."""

import random

BOOL = (("False", False), ("True", False))
ONE = (("Only", True),)
LIST = (("Nil", False), ("Cons", True))
TWELVE = tuple((f"C{k}", k % 3 == 0) for k in range(12))
EXCEPTIONS = [("var", "exn A"), ("field", "exn B", ("var", "mod M")), ("var", "exn C")]
HAS_ARGUMENT = [True, False, True]
NUMBERS = [(expression, 4 + k) for k, expression in enumerate(EXCEPTIONS)]


class Column:
    """What the patterns of one column may ask for: a kind, and the columns inside."""

    def __init__(self, chance, depth):
        self.chance = chance
        kinds = ["int", "bool"] if depth == 0 else ["int", "bool", "tuple", "one", "list", "twelve", "packet", "tuple"]
        self.kind = chance.choice(kinds)
        if self.kind == "tuple":
            self.parts = [Column(chance, depth - 1) for _ in range(chance.choice([0, 2, 2, 3]))]
        elif self.kind in ("one", "list", "twelve"):
            self.family = {"one": ONE, "list": LIST, "twelve": TWELVE}[self.kind]
            self.parts = [Column(chance, depth - 1) for _ in self.family]
        elif self.kind == "packet":
            # Two expressions have arguments of one kind, so that they may stand for one exception.
            self.parts = [Column(chance, depth - 1), Column(chance, depth - 1)]
            self.parts.append(self.parts[0])
        elif self.kind == "bool":
            self.family, self.parts = BOOL, [None, None]

    def pattern(self, names):
        roll = self.chance.random()
        if roll < 0.2:
            return ("any",)
        if roll < 0.3:
            names.append(f"x{len(names)}")
            return ("var", names[-1])
        if roll < 0.4:
            names.append(f"x{len(names)}")
            return ("as", names[-1], self.pattern(names))
        if self.kind == "int":
            return ("int", self.chance.randint(0, 2))
        if self.kind == "tuple":
            return ("tuple", tuple(part.pattern(names) for part in self.parts))
        if self.kind == "packet":
            k = self.chance.randrange(len(EXCEPTIONS))
            return ("packet", EXCEPTIONS[k], self.parts[k].pattern(names) if HAS_ARGUMENT[k] else None)
        k = self.chance.randrange(len(self.family))
        return ("con", self.family, k, self.parts[k].pattern(names) if self.family[k][1] else None)

    def values(self, limit):
        """So many values of the column, or all that matter: each choice at each place, and one more."""
        if self.kind == "int":
            found = [("int", n) for n in range(4)]
        elif self.kind == "tuple":
            found = [()]
            for part in self.parts:
                found = [(*front, value) for front in found for value in part.values(limit)][: limit * 4]
            found = [("tuple", items) for items in found]
        elif self.kind == "packet":
            found = [("packet", 99, "Other", None)]
            for k, part in enumerate(self.parts):
                arguments = part.values(limit) if HAS_ARGUMENT[k] else [None]
                found += [("packet", 4 + k, "E", argument) for argument in arguments]
        else:
            found = []
            for k, (name, has_argument) in enumerate(self.family):
                arguments = self.parts[k].values(limit) if has_argument else [None]
                found += [("con", k, name, argument) for argument in arguments]
        if len(found) <= limit:
            return found
        return self.chance.sample(found, limit)


def all_values(column):
    """Whether the values of a column with a great limit are all that matter."""
    return column.values(3000)


def columns(seed, count, depth):
    chance = random.Random(seed)
    return [Column(chance, depth) for _ in range(count)]
