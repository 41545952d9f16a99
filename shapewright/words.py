"""Words: integers that stand for values. A block is named by the address of its first word."""

HEADER = 4
UNIT_WORD = 3
# The kinds of blocks.
TUPLE = 0
RECORD = 1
CONSTRUCTOR = 2
CLOSURE = 3
EXCEPTION = 4
PACKET = 5
REFERENCE = 6


def word_of_integer(n):
    return 4 * n


def names_integer(word):
    return word % 4 == 0


def integer_of(word):
    return word // 4


def word_of_block(address):
    return 4 * address + 1


def names_block(word):
    return word % 4 == 1


def address_of(word):
    """The address of the block that the word names."""
    return word // 4


def block_length(words, address):
    """The number of words of the block at an address, its header included."""
    return HEADER + words[address + HEADER - 1]


def word_of_constructor(name, index):
    """The word of a constructor without argument, where the name is given by its number."""
    return 4 * (16 * name + index) + 2


def names_constructor(word):
    return word % 4 == 2


def constructor_of(word):
    """The number of the name and the index of a constructor without argument."""
    return divmod(word // 4, 16)
