"""The bounds of nesting that a text keeps before its grammar is looked at."""

from shapewright.errors import NotWellFormed

MAX_OPEN = 30
MAX_COUNT = 40

OPENING = ("(", "let", "struct", "sig")
CLOSING = (")", "end")
COUNTED = ("fn", "case", "if", "raise", "handle", "as", "->", "::", "@", "andalso", "orelse")
# Behind these follow rules; each further rule begins with the count that the first one began with.
BEFORE_RULES = ("fn", "case", "handle")
BETWEEN_RULES = ("=>", "|")
CLEARING = (
    ",", ";", "and", "in",
    "val", "rec", "alias", "exception", "open", "variant", "module", "functor", "signature", "shape", "include",
)


class Level:
    """The count of an open level, and what it was behind the last token before rules."""

    def __init__(self):
        self.counted = 0
        self.marked = 0

    def note(self, sign):
        if sign in CLEARING:
            self.counted = 0
            self.marked = 0
        elif sign in BETWEEN_RULES:
            self.counted = self.marked
        elif sign in COUNTED:
            self.counted += 1
        if sign in BEFORE_RULES:
            self.marked = self.counted


def check_nesting(tokens):
    """Raises NotWellFormed if at some token too many levels are open or too much is counted."""
    # The first level stands for what is outside of all levels.
    levels = [Level()]
    for kind, sign, _ in tokens:
        if kind not in ("word", "symbol"):
            continue
        if sign in OPENING:
            levels.append(Level())
        elif sign in CLOSING:
            if len(levels) > 1:
                levels.pop()
        else:
            levels[-1].note(sign)
        if len(levels) - 1 > MAX_OPEN or sum(level.counted for level in levels) > MAX_COUNT:
            raise NotWellFormed("the text is nested too deeply")
