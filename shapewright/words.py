"""Words: integers that stand for values. A block is named by the address of its first word."""

HEADER = 4
UNIT_WORD = 3


def word_of_integer(n):
    return 4 * n


def word_of_block(address):
    return 4 * address + 1


def word_of_constructor(name, index):
    """The word of a constructor without argument, where the name is given by its number."""
    return 4 * (16 * name + index) + 2


def names_block(word):
    return word % 4 == 1


def address_of(word):
    """The address of the block that the word names."""
    return word // 4


def block_length(words, address):
    """The number of words of the block at an address, its header included."""
    return HEADER + words[address + HEADER - 1]
