"""Programs for the tests of modules, and a way to run them by the meaning."""

from deriver import BASIS
from shapewright.levels import tidy
from shapewright.lower import record, wrap
from shapewright.plain import is_plain
from shapewright.reader import read_program
from shapewright.steps import run
from shapewright.structures import declare_all
from shapewright.values import show


def primitive(name, count):
    """A function from a tuple to the result of an operation."""
    if count == 1:
        return ("fn", "a", ("prim", name, (("var", "a"),)))
    names = tuple(("var", f"a{k}") for k in range(count))
    return ("fn", "a", ("match", ("var", "a"), ((("tuple", names), ("prim", name, names)),), "Bind"))


LIST = (("Nil", False), ("Cons", True))
APPEND = ("match", ("var", "a"), (
    (("tuple", (("con", LIST, 0, None), ("var", "l"))), ("var", "l")),
    (("tuple", (("con", LIST, 1, ("tuple", (("var", "x"), ("var", "r")))), ("var", "l"))), ("con", LIST, 1, ("tuple", (("var", "x"), ("app", ("var", "@"), ("tuple", (("var", "r"), ("var", "l")))))))),
), "Match")
BOUND = (
    ("let", "exn Match", ("fixed", 0)), ("let", "exn Div", ("fixed", 2)), ("let", "+", primitive("add", 2)), ("let", "-", primitive("sub", 2)), ("let", "*", primitive("mul", 2)), ("let", "=", primitive("equal", 2)),
    ("let", "ref", primitive("ref", 1)), ("let", "!", primitive("fetch", 1)), ("let", ":=", primitive("assign", 2)),
    ("rec", (("@", "a", APPEND),)),
)


def accepted(text, context=BASIS):
    """What a program declares, and the closed plain tree of its record."""
    entries, after, lowered, derivations = declare_all(context, read_program(text))
    return entries, after, wrap((*BOUND, *lowered), record(tidy(entries))), derivations


def written(text):
    """The written form of the record of a program, or the end of its run if it has no value."""
    tree = accepted(text)[2]
    assert is_plain(tree, []), text
    last, state, _ = run(tree, 100000)
    return show(last[1], state[4], 200) if last[0] in ("value", "raised") else last


QUEUE = """
module Q = struct
  variant 'a q = Q of 'a list * 'a list
  exception Empty
  val empty = Q (Nil, Nil)
  val hidden = 3
  rec reverse = fn (Nil, l) => l | (x :: r, l) => reverse (r, x :: l)
  val push = fn (x, Q (f, b)) => Q (f, x :: b)
  rec pop = fn Q (x :: f, b) => (x, Q (f, b)) | Q (Nil, Nil) => raise Empty | Q (Nil, b) => pop (Q (reverse (b, Nil), Nil))
end :> sig shape 'a q exception Empty val empty : all 'a . 'a q val push : all 'a . 'a * 'a q -> 'a q val pop : all 'a . 'a q -> 'a * 'a q end
"""
