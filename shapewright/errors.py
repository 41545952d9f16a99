"""The errors of the program."""


class ShapewrightError(ValueError):
    """The base class of all errors of the program."""


class BadText(ShapewrightError):
    """A text that is wrong at the character with the index `at`."""

    def __init__(self, at):
        ShapewrightError.__init__(self, f"the text is wrong at character {at}")
        self.at = at


class NotWellFormed(ShapewrightError):
    """A tree or a text beyond the bounds of the language, or without its form."""


class NotUnifiable(ShapewrightError):
    """Equations that no substitution unifies."""


class TooLarge(ShapewrightError):
    """A shape that is larger or deeper than the bounds allow."""


class UnknownName(ShapewrightError):
    """A path or a shape variable that has no entry."""

    def __init__(self, name):
        ShapewrightError.__init__(self, f"unknown: {name!r}")
        self.name = name


class WrongArity(ShapewrightError):
    """A shape name with the wrong number of arguments."""

    def __init__(self, name):
        ShapewrightError.__init__(self, f"wrong number of arguments: {name!r}")
        self.name = name


class DuplicateName(ShapewrightError):
    """A name that occurs twice where it may occur only once."""

    def __init__(self, name):
        ShapewrightError.__init__(self, f"occurs twice: {name!r}")
        self.name = name


class NotShaped(ShapewrightError):
    """A phrase that has no shape."""


class BadModule(ShapewrightError):
    """A module or signature that is refused, with a code and the path of what is wrong."""

    def __init__(self, code, path):
        ShapewrightError.__init__(self, f"bad module: {code!r} at {path!r}")
        self.code = code
        self.path = path


class OutOfRoom(ShapewrightError):
    """A block that does not fit into the heap."""


class NoBlock(ShapewrightError):
    """A word that names no block, or a field that a block does not have."""


class Weak(ShapewrightError):
    """A program whose entry `name` has a free variable at its end."""

    def __init__(self, name):
        ShapewrightError.__init__(self, f"weak: {name!r}")
        self.name = name
