"""The collector: copies the blocks that can be reached into another space."""

from shapewright.words import HEADER, address_of, block_length, names_block, word_of_block


def reachable(words, roots):
    """The number of words of the blocks that can be reached from the roots."""
    return len(collect(words, roots)[0])


def collect(words, roots):
    """The words of the other space and the roots with their new addresses.

    The blocks that have been copied are walked in order; those that their fields name are copied behind them.
    """
    copied = []
    moved = {}
    new_roots = [moved_word(words, word, copied, moved) for word in roots]
    address = 0
    while address < len(copied):
        after = address + block_length(copied, address)
        for place in range(address + HEADER, after):
            copied[place] = moved_word(words, copied[place], copied, moved)
        address = after
    return copied, new_roots


def moved_word(words, word, copied, moved):
    """The word with the new address of its block, which is copied if it has not been."""
    if not names_block(word):
        return word
    address = address_of(word)
    if address not in moved:
        moved[address] = len(copied)
        copied.extend(words[address:address + block_length(words, address)])
    return word_of_block(moved[address])
