"""The code of one function while it is made: jumps name labels, which are replaced by places when it is finished."""

from shapewright.instructions import JUMPS


class Assembly:
    """The instructions so far, the place of each label, and the number of slots that they use."""

    def __init__(self):
        self.code = []
        self.labels = []
        self.slots = 1

    def emit(self, instruction):
        self.code.append(instruction)

    def new_label(self):
        self.labels.append(None)
        return len(self.labels) - 1

    def mark(self, label):
        """The label stands for the place of the next instruction."""
        self.labels[label] = len(self.code)

    def reserve(self, slots):
        """The function has at least so many slots."""
        self.slots = max(self.slots, slots)

    def finished(self):
        """The tuple of the instructions, with places in the jumps."""
        return tuple([self.placed(instruction) for instruction in self.code])

    def placed(self, instruction):
        if instruction[0] not in JUMPS:
            return instruction
        return (*instruction[:-1], self.labels[instruction[-1]])
