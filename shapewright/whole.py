"""Whole programs: checking, compiling and running them."""

from shapewright.basis import BASIS, BASIS_LOWERED
from shapewright.compiler import compile_tree
from shapewright.context import free_variables
from shapewright.engine import run_machine
from shapewright.errors import NotWellFormed, Weak
from shapewright.levels import tidy
from shapewright.lower import record, wrap
from shapewright.reader import read_program
from shapewright.report import report
from shapewright.structures import declare_all
from shapewright.trees import is_program


def check_program(program):
    """The entries of an accepted program, the context afterwards, its plain tree and its report."""
    if not is_program(program):
        raise NotWellFormed("the tree is no program")
    entries, context, lowered, _ = declare_all(BASIS, program)
    for entry in context[0]:
        if free_variables((entry,)):
            raise Weak(entry[1])
    plain = wrap((*BASIS_LOWERED, *lowered), record(tidy(entries)))
    return entries, context, plain, report(entries, context[0])


def prepare(plain):
    """The compiled program."""
    return compile_tree(plain)


def execute(plain, cells, fuel, every):
    """The end and the output of a run by the machine."""
    return run_machine(prepare(plain), cells, fuel, every)


def run_text(text, cells, fuel):
    """Reads, checks and executes a program; returns its report, the end and the output."""
    _, _, plain, lines = check_program(read_program(text))
    end, output = execute(plain, cells, fuel, 0)
    return lines, end, output
