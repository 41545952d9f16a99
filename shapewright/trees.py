"""Which values are well-formed trees, and where the parts of a tree stand."""

from shapewright.forms import all_well_formed, kind_of, parts_of
from shapewright.integers import is_list


def is_shape(tree):
    return all_well_formed("shape", (tree,))


def is_pattern(tree):
    return all_well_formed("pattern", (tree,))


def is_expression(tree):
    return all_well_formed("expression", (tree,))


def is_declaration(tree):
    return all_well_formed("declaration", (tree,))


def is_module(tree):
    return all_well_formed("module", (tree,))


def is_signature(tree):
    return all_well_formed("signature", (tree,))


def is_program(tree):
    return is_list(tree, 0, 12) and all_well_formed("top", tree)


def children(tree):
    """The children of a tree or program, from left to right."""
    if not tree or isinstance(tree[0], tuple):
        return tree
    return tuple([part for _, part in parts_of(kind_of(tree), tree)])


def at_place(tree, place):
    """The tree at a place of the tree or program, or None if there is none."""
    for index in place:
        below = children(tree)
        if not 0 <= index < len(below):
            return None
        tree = below[index]
    return tree


def levels_of(tree):
    """The lists of the trees at each depth, the outermost first; for a program the declarations come first."""
    row = [tree] if tree and isinstance(tree[0], str) else list(tree)
    rows = []
    while row:
        rows.append(row)
        row = [part for parent in row for part in children(parent)]
    return rows


def count_nodes(tree):
    return sum(len(row) for row in levels_of(tree))


def depth(tree):
    return len(levels_of(tree))
