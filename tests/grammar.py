"""The grammar of the document and a recognizer for it that shares nothing with the reader.

`first_wrong(start, signs)` tells the index of the first sign such that no text of the grammar begins with the
signs up to it, the number of signs if the text may not end there, and None if it is a text of the grammar.
"""

GRAMMAR = """
program = { dec | 'signature' CAPITAL '=' sig }
dec     = local | 'open' mpath | 'variant' def { 'and' def } | 'module' CAPITAL '=' mod
        | 'functor' CAPITAL '(' CAPITAL ':' sig ')' '=' mod
local   = 'val' pat '=' exp | 'rec' bind { 'and' bind } | 'alias' params SMALL '=' shape
        | 'exception' con
bind    = name [ ':' scheme ] '=' 'fn' rules
def     = params SMALL '=' con { '|' con }
con     = CAPITAL [ 'of' shape ]
rules   = pat '=>' exp { '|' pat '=>' exp }
exp     = 'fn' rules | 'case' exp 'of' rules | 'if' exp 'then' exp 'else' exp | 'raise' exp
        | has [ 'handle' rules ]
has     = or { ':' shape }
or      = and [ 'orelse' or ]
and     = infix [ 'andalso' and ]
infix   = call { (OP | '::') call }
call    = atom { atom }
atom    = NUMBER | { CAPITAL '.' } (name | CAPITAL) | '~' | '!' | '(' ')' | '(' exp ')'
        | '(' exp ',' exp { ',' exp } ')' | '(' exp ';' exp { ';' exp } ')' | 'let' local { local } 'in' exp 'end'
name    = SMALL | '(' OP ')' | '(' '~' ')' | '(' '!' ')'
pat     = name 'as' pat | cons { ':' shape }
cons    = parg [ '::' cons ] | cpath parg [ '::' cons ]
parg    = '_' | name | NUMBER | cpath | '(' ')' | '(' pat { ',' pat } ')'
cpath   = { CAPITAL '.' } CAPITAL
shape   = prod [ '->' shape ]
prod    = post { '*' post }
post    = (TICK | spath | '(' shape ')' | '(' shape ',' shape { ',' shape } ')' spath) { spath }
spath   = { CAPITAL '.' } SMALL
scheme  = [ 'all' TICK { TICK } '.' ] shape
params  = [ TICK | '(' TICK { ',' TICK } ')' ]
mpath   = { CAPITAL '.' } CAPITAL
mod     = mprim { ':' sig | ':>' sig }
mprim   = 'struct' { dec } 'end' | mpath [ '(' mod ')' ] | 'let' dec { dec } 'in' mod 'end' | '(' mod ')'
sig     = sprim { 'where' params spath '=' shape }
sprim   = 'sig' { spec } 'end' | CAPITAL | '(' sig ')'
spec    = 'val' name ':' scheme | 'shape' params SMALL | 'alias' params SMALL '=' shape
        | 'variant' def { 'and' def } | 'exception' con | 'module' CAPITAL ':' sig | 'include' sig
OP      = '*' | 'div' | 'mod' | '+' | '-' | '@' | '=' | '<>' | '<' | '<=' | '>' | '>=' | ':='
"""


def split_rules():
    """The right sides of the grammar as lists of words."""
    sides = {}
    name = None
    for line in GRAMMAR.strip().split("\n"):
        words = line.replace("(OP", "( OP").replace("'::')", "'::' )").replace("(TICK", "( TICK")
        words = words.replace("spath) {", "spath ) {").replace("(name", "( name").replace("CAPITAL) |", "CAPITAL ) |")
        words = words.split()
        if len(words) > 1 and words[1] == "=":
            name = words[0]
            sides[name] = []
            words = words[2:]
        sides[name].extend(words)
    return sides


class Productions:
    """The grammar without braces and brackets: each name has a list of sequences of names and terminals."""

    def __init__(self):
        self.table = {}
        for name, words in split_rules().items():
            self.table[name] = None
        for name, words in split_rules().items():
            choices, end = self.choices(words, 0)
            assert end == len(words), (name, words[end:])
            self.table[name] = choices
        self.empty = self.names_of_nothing()

    def fresh(self, choices):
        name = f"#{len(self.table)}"
        self.table[name] = choices
        return name

    def choices(self, words, at):
        found, row = [], []
        while at < len(words) and words[at] not in (")", "]", "}"):
            word = words[at]
            at += 1
            if word == "|":
                found.append(tuple(row))
                row = []
            elif word in ("(", "[", "{"):
                inner, at = self.choices(words, at)
                name = self.fresh(inner)
                if word == "[":
                    self.table[name] = [*inner, ()]
                elif word == "{":
                    self.table[name] = [(*part, name) for part in inner] + [()]
                row.append(name)
                at += 1
            else:
                row.append(word)
        found.append(tuple(row))
        return found, at

    def names_of_nothing(self):
        empty = set()
        while True:
            more = {n for n, rows in self.table.items() if any(all(s in empty for s in row) for row in rows)}
            if more == empty:
                return empty
            empty = more


PRODUCTIONS = Productions()


def terminal(symbol, sign):
    if symbol.startswith("'"):
        return symbol[1:-1] == sign
    return symbol == sign


def close_set(sets, at, start):
    """Completes the set of items at a place; an item is a name, a sequence, a place in it and where it began."""
    waiting = list(sets[at])
    while waiting:
        name, row, dot, origin = waiting.pop()
        new = []
        if dot < len(row):
            symbol = row[dot]
            if symbol in PRODUCTIONS.table:
                new = [(symbol, other, 0, at) for other in PRODUCTIONS.table[symbol]]
                if symbol in PRODUCTIONS.empty:
                    new.append((name, row, dot + 1, origin))
        else:
            for n, r, d, o in list(sets[origin]):
                if d < len(r) and r[d] == name:
                    new.append((n, r, d + 1, o))
        for item in new:
            if item not in sets[at]:
                sets[at].add(item)
                waiting.append(item)


def first_wrong(start, signs):
    sets = [{(start, row, 0, 0) for row in PRODUCTIONS.table[start]}]
    close_set(sets, 0, start)
    for at, sign in enumerate(signs):
        moved = set()
        for name, row, dot, origin in sets[at]:
            if dot < len(row) and row[dot] not in PRODUCTIONS.table and terminal(row[dot], sign):
                moved.add((name, row, dot + 1, origin))
        if not moved:
            return at
        sets.append(moved)
        close_set(sets, at + 1, start)
    if any(name == start and dot == len(row) and origin == 0 for name, row, dot, origin in sets[-1]):
        return None
    return len(signs)
