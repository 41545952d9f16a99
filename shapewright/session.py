"""Sessions: programs that are accepted and run one after the other."""

from shapewright.basis import BASIS, BASIS_LOWERED
from shapewright.context import free_variables
from shapewright.errors import NotWellFormed
from shapewright.levels import tidy
from shapewright.lower import record, wrap
from shapewright.report import report
from shapewright.rows import bound
from shapewright.steps import run_from, start, step
from shapewright.structures import declare_all
from shapewright.trees import is_program
from shapewright.values import show

SHOWN_PARTS = 100
# What the session's first environment is found with: a variable that nothing binds.
BODY = ("var", "body -")
VALUE_LABEL = "val "


def first_state():
    """The state of the meaning in which the declarations of the basis have been evaluated."""
    state = start(wrap(BASIS_LOWERED, BODY))
    while state[1] != BODY:
        state = step(state)
    return state


class Session:
    """The context, the environment, the store and the next exception after the inputs so far, and their output."""

    def __init__(self):
        state = first_state()
        self.known = BASIS
        self.environment = state[2]
        self.store = state[4]
        self.made = state[5]
        self.printed = state[6]

    def enter(self, program, fuel):
        """Checks and runs an input; returns its report and its end."""
        if not is_program(program):
            raise NotWellFormed("the tree is no program")
        entries, context, lowered, _ = declare_all(self.known, program)
        body = wrap(lowered, record(tidy(entries)))
        end, state, _ = run_from(("eval", body, self.environment, None, self.store, self.made, ()), fuel)
        self.store = state[4]
        self.made = state[5]
        self.printed = (*self.printed, *state[6])
        lines = report(entries, context[0])
        if end[0] == "value":
            self.known = context
            fields = [(variable_of(label), value) for label, value in end[1][1]]
            self.environment = bound(self.environment, fields)
        else:
            self.known = (context[0][:len(self.known[0])], context[1])
        if end[0] != "fuel":
            end = (end[0], show(end[1], self.store, SHOWN_PARTS))
        return lines, end

    def weak_names(self):
        """The names of the entries with free variables."""
        found = {}
        for entry in self.known[0]:
            if free_variables((entry,)):
                found[entry[1]] = True
        return list(found)

    def context(self):
        return self.known

    def output(self):
        """The integers that all inputs have printed."""
        return self.printed

    def lines(self):
        """The report of the declarations of all inputs."""
        entries = self.known[0]
        return report(entries[len(BASIS[0]):], entries)


def variable_of(label):
    """The variable that the field of a record with this label is bound to."""
    return label[len(VALUE_LABEL):] if label.startswith(VALUE_LABEL) else label
