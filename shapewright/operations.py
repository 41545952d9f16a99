"""The primitive operations of plain trees and of programs of instructions."""

OPERAND_COUNTS = {
    "add": 2, "sub": 2, "mul": 2, "div": 2, "mod": 2, "neg": 1, "less": 2, "leq": 2, "equal": 2, "ref": 1,
    "fetch": 1, "assign": 2, "print": 1,
}
