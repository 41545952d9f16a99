"""Reading whole texts."""

from shapewright.cursor import Cursor
from shapewright.errors import NotWellFormed
from shapewright.expression_reader import take_expression
from shapewright.module_reader import take_program
from shapewright.nesting import check_nesting
from shapewright.pattern_reader import take_pattern
from shapewright.shape_reader import take_shape
from shapewright.tokens import split_tokens
from shapewright.trees import is_expression, is_pattern, is_program, is_shape


def read_program(text):
    return read_whole(text, take_program, is_program)


def read_expression(text):
    return read_whole(text, take_expression, is_expression)


def read_pattern(text):
    return read_whole(text, take_pattern, is_pattern)


def read_shape(text):
    return read_whole(text, take_shape, is_shape)


def read_whole(text, reads, accepts):
    """The tree of a whole text; the order of the steps decides which error is raised."""
    tokens = split_tokens(text)
    check_nesting(tokens)
    cursor = Cursor(tokens, len(text))
    tree = reads(cursor)
    cursor.expect_end()
    if not accepts(tree):
        raise NotWellFormed("the tree of the text is not well formed")
    return tree
