"""Splitting a text into tokens."""

from shapewright.errors import BadText
from shapewright.integers import is_integer
from shapewright.lexicon import CAPITAL_LETTERS, DIGITS, MAX_NAME, NAME_CHARACTERS, WORDS, is_small

PAIRS = ("=>", "->", ":>", "<=", ">=", "<>", ":=", "::")
SINGLES = "(),;|=:._*+-@<>~!"
# A longer digit sequence is out of range, whatever its digits are.
MAX_DIGITS = 10


def split_tokens(text):
    """The tokens of a text, each a triple of its kind, its value and the index of its first character."""
    found = []
    at = 0
    while at < len(text):
        if text[at] in " \n":
            at += 1
        elif text.startswith("(*", at):
            at = end_of_comment(text, at)
        else:
            token, at = token_at(text, at)
            found.append(token)
    return found


def end_of_comment(text, start):
    """The index behind the comment that begins at the start."""
    at = start
    nested = 0
    while at < len(text):
        if text.startswith("(*", at):
            nested += 1
            at += 2
        elif text.startswith("*)", at):
            nested -= 1
            at += 2
        else:
            at += 1
        if nested == 0:
            return at
    raise BadText(start)


def token_at(text, at):
    """The longest token at a place, and the index behind it."""
    character = text[at]
    if is_digit_at(text, at) or (character == "~" and is_digit_at(text, at + 1)):
        return number_at(text, at)
    if character in NAME_CHARACTERS:
        return run_at(text, at)
    if character == "'":
        return tick_at(text, at)
    if text[at:at + 2] in PAIRS:
        return ("symbol", text[at:at + 2], at), at + 2
    if character in SINGLES:
        return ("symbol", character, at), at + 1
    raise BadText(at)


def is_digit_at(text, at):
    return at < len(text) and text[at] in DIGITS


def end_of_run(text, at):
    """The index of the first character from a place on that is no letter, digit or underscore."""
    while at < len(text) and text[at] in NAME_CHARACTERS:
        at += 1
    return at


def number_at(text, start):
    first = start + 1 if text[start] == "~" else start
    at = first
    while is_digit_at(text, at):
        at += 1
    digits = text[first:at]
    if end_of_run(text, at) > at or len(digits) > MAX_DIGITS:
        raise BadText(start)
    if digits[0] == "0" and (len(digits) > 1 or first > start):
        raise BadText(start)
    number = int(digits) if first == start else -int(digits)
    if not is_integer(number):
        raise BadText(start)
    return ("number", number, start), at


def run_at(text, start):
    """The token at the first character of a run of letters, digits and underscores."""
    end = end_of_run(text, start)
    if end - start > MAX_NAME:
        raise BadText(start)
    if text[start] == "_":
        return ("symbol", "_", start), start + 1
    name = text[start:end]
    if name in WORDS:
        return ("word", name, start), end
    kind = "capital" if name[0] in CAPITAL_LETTERS else "small"
    return (kind, name, start), end


def tick_at(text, start):
    end = end_of_run(text, start + 1)
    name = text[start + 1:end]
    if not is_small(name):
        raise BadText(start)
    return ("tick", name, start), end
