"""States in which the machine is stuck."""

from shapewright.moves import has_ended, moved
from shapewright.rows import fitting


def stuck_word(state):
    """The word of what is wrong with a state, or None if it has ended or has a next state."""
    if has_ended(state):
        return None
    after = moved(state)
    return after if isinstance(after, str) else None


def match_row(pattern, value, environment):
    """The bindings of a value that fits, None if it does not fit, or the word of the first conflict."""
    return fitting(pattern, value, environment)
