"""A place in a list of tokens."""

from shapewright.errors import BadText

SIGNS = {"number": "NUMBER", "tick": "TICK", "small": "SMALL", "capital": "CAPITAL"}


class Cursor:
    """Reads tokens one after the other. The sign of a word or symbol is its text, of another token its kind."""

    def __init__(self, tokens, end):
        self.tokens = tokens
        self.text_end = end
        self.next_index = 0

    def sign_at(self, index):
        if index >= len(self.tokens):
            return ""
        kind, value, _ = self.tokens[index]
        return SIGNS.get(kind, value)

    def sign(self):
        """The sign of the next token, empty at the end of the text."""
        return self.sign_at(self.next_index)

    def second_sign(self):
        return self.sign_at(self.next_index + 1)

    def position(self):
        """The index of the next token's first character, or the length of the text at its end."""
        if self.next_index >= len(self.tokens):
            return self.text_end
        return self.tokens[self.next_index][2]

    def take(self):
        """Passes the next token and returns its value."""
        value = self.tokens[self.next_index][1]
        self.next_index += 1
        return value

    def expect(self, sign):
        """Passes a token that must have this sign, and returns its value."""
        if self.sign() != sign:
            raise BadText(self.position())
        return self.take()

    def passes(self, sign):
        """Passes the next token if it has this sign; tells whether it did."""
        if self.sign() != sign:
            return False
        self.next_index += 1
        return True

    def expect_end(self):
        if self.next_index < len(self.tokens):
            raise BadText(self.position())
