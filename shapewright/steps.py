"""The machine that makes small steps."""

from shapewright.moves import has_ended, moved
from shapewright.stuck import stuck_word


def start(tree):
    """The first state of an expression."""
    return ("eval", tree, None, None, (), 4, ())


def step(state):
    """The next state, or the state itself if it has none."""
    if has_ended(state):
        return state
    after = moved(state)
    return state if isinstance(after, str) else after


def end(state):
    """How a state has ended or is stuck, or None if it goes on."""
    if has_ended(state):
        return ("value" if state[0] == "back" else "raised", state[1])
    word = stuck_word(state)
    return None if word is None else ("stuck", word)


def run(tree, fuel):
    """Makes at most so many steps; returns the end, the last state and the number of steps made."""
    return run_from(start(tree), fuel)


def run_from(state, fuel):
    """Makes at most so many steps from a state."""
    for count in range(fuel):
        if has_ended(state):
            return end(state), state, count
        after = moved(state)
        if isinstance(after, str):
            return ("stuck", after), state, count
        state = after
    last = end(state)
    return ("fuel",) if last is None else last, state, fuel
