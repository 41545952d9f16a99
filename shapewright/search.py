"""The search for a pattern that no value of some rows fits.

Each place of the rows at which a pattern says something gets a number. A test is a pair of a place and the key of
what a pattern asks for there: an integer, the index of a constructor, or the number of a packet. A place in the
argument of a constructor belongs to that constructor, so tests of different constructors have different places.
"""

# The key of what no row asks for: another integer, a constructor that no row has, another exception.
OTHER = -1


class Places:
    """The places of some rows, and what the rows ask for there."""

    def __init__(self):
        self.numbers = {}
        self.kinds = []
        self.parts = []
        self.asked = []

    def number_of(self, above, step, key):
        """The number of the place below another one; for an argument, the key says of what."""
        if (above, step, key) not in self.numbers:
            self.numbers[above, step, key] = len(self.kinds)
            self.kinds.append(None)
            self.parts.append([])
            self.asked.append([])
        return self.numbers[above, step, key]

    def tests_of(self, pattern):
        """The tests of a pattern, from left to right, outside before inside."""
        found = []
        waiting = [(pattern, self.number_of(-1, 0, 0))]
        while waiting:
            part, place = waiting.pop()
            tag = part[0]
            if tag == "as":
                waiting.append((part[2], place))
            elif tag == "tuple":
                self.kinds[place] = "tuple"
                self.parts[place] = [self.number_of(place, index, 0) for index in range(len(part[1]))]
                waiting.extend(list(zip(part[1], self.parts[place]))[::-1])
            elif tag not in ("any", "var"):
                key = self.key_of(part, place)
                found.append((place, key))
                if tag != "int" and part[-1] is not None:
                    waiting.append((part[-1], self.number_of(place, "argument", key)))
        return found

    def key_of(self, pattern, place):
        """The key of what a pattern asks for at a place; keys count from 0 in the order in which they occur."""
        self.kinds[place] = pattern[0]
        # Packet patterns with and without an argument ask for different things, even of one exception.
        wanted = (*pattern[:-1], pattern[-1] is None) if pattern[0] == "packet" else pattern[:3]
        if wanted not in self.asked[place]:
            self.asked[place].append(wanted)
        return self.asked[place].index(wanted)

    def others(self, place, rows):
        """The keys of what a value may be at the place. If it may be something for which none of the rows asks,
        that is the only one: no other one contradicts more rows."""
        count = len(self.asked[place])
        if self.kinds[place] != "con" or count < len(self.asked[place][0][1]):
            return [OTHER]
        used = {key: True for row in rows for asked_place, key in row if asked_place == place}
        unused = [key for key in range(count) if key not in used]
        return unused[:1] if unused else list(range(count))

    def pattern_for(self, place, chosen):
        """The pattern of what is chosen at the place and inside."""
        if self.kinds[place] == "tuple":
            return ("tuple", tuple([self.pattern_for(part, chosen) for part in self.parts[place]]))
        if place not in chosen:
            return ("any",)
        key = chosen[place]
        if key == OTHER:
            return self.other_pattern(place)
        wanted = self.asked[place][key]
        if wanted[0] == "int":
            return wanted
        has_argument = wanted[1][wanted[2]][1] if wanted[0] == "con" else not wanted[2]
        argument = self.pattern_for(self.numbers[place, "argument", key], chosen) if has_argument else None
        return (*wanted, argument) if wanted[0] == "con" else (*wanted[:2], argument)

    def other_pattern(self, place):
        """A pattern for what no row asks for at the place."""
        asked = self.asked[place]
        if self.kinds[place] == "con":
            family = asked[0][1]
            index = first_number(len(family), [wanted[2] for wanted in asked])
            return ("con", family, index, ("any",) if family[index][1] else None)
        if self.kinds[place] == "int":
            return ("int", first_number(len(asked) + 1, [wanted[1] for wanted in asked]))
        return ("packet", self.other_exception(), None)

    def other_exception(self):
        """An expression for an exception that no row names anywhere."""
        named = [wanted[1] for asked in self.asked for wanted in asked if wanted[0] == "packet"]
        taken = [number for number in range(len(named)) if ("var", f"other {number}") in named]
        return ("var", f"other {first_number(len(named) + 1, taken)}")


def first_number(count, taken):
    """The first number below the count that is not taken."""
    return [number for number in range(count) if number not in taken][0]


def refuting_pattern(rows, below):
    """A pattern without variables that is incompatible with each row and below the patterns of the second list (none
    or one), or None. It agrees with all rows."""
    places = Places()
    chosen = {}
    for pattern in below:
        chosen.update({place: key for place, key in places.tests_of(pattern)})
    tests = [places.tests_of(row) for row in rows]
    found = refuted(places, tests, chosen)
    return None if found is None else places.pattern_for(places.number_of(-1, 0, 0), found)


def refuted(places, rows, chosen):
    """A choice for places that extends what is chosen and contradicts each row, or None. Each call settles at least
    one row, so that the calls are nested at most as deep as there are rows."""
    left = [open_tests(row, chosen) for row in rows if not is_contradicted(row, chosen)]
    if not left:
        return chosen
    # The row with the fewest tests can be contradicted in the fewest ways.
    shortest = min(left, key=len)
    for place, key in shortest:
        others = places.others(place, left)
        for other in others:
            found = None if other == key else refuted(places, left, {**chosen, place: other})
            if found is not None:
                return found
        if key not in others:
            return None
        chosen = {**chosen, place: key}
    return None


def is_contradicted(tests, chosen):
    return any([place in chosen and chosen[place] != key for place, key in tests])


def open_tests(tests, chosen):
    return [(place, key) for place, key in tests if place not in chosen]
