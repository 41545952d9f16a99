"""What is known of the variables while the shapes of a phrase are being found."""

from shapewright.context import free_variables
from shapewright.schemes import instantiate
from shapewright.terms import FREE
from shapewright.unify import Built, Graph, equate, inside_first, solution


class Solver:
    """New variables, and what the equations so far say of all variables. NotUnifiable means that no solution of
    any size exists, TooLarge that each one has a shape beyond the bounds."""

    def __init__(self, context, first):
        self.graph = Graph()
        self.outer_length = len(context[0])
        self.outer_numbers = free_variables(context[0])
        self.next_number = max([first, FREE, *[number + 1 for number in self.outer_numbers]])
        self.unseen = []

    def fresh(self):
        """A new variable."""
        number = self.next_number
        self.next_number += 1
        return ("v", number)

    def instance(self, scheme):
        """New variables for the general ones of a scheme, and the instance with them."""
        shapes = tuple([self.fresh() for _ in range(scheme[0])])
        return shapes, instantiate(scheme, shapes)

    def equal(self, left, right):
        equate(self.graph, left, right)

    def note_unseen(self, shape):
        """Keeps a shape that must be within the bounds, although it does not stand in the derivation."""
        self.unseen.append(shape)

    def now(self, shape):
        """The shape with everything replaced that is known."""
        node = self.graph.node_of(shape)
        return Built(self.graph, [node]).shape_of(self.graph.root(node))

    def variables_now(self, numbers):
        """The numbers of the variables in what is known of the variables with these numbers. The shapes are not
        built: in a context they may be far too large before everything is known."""
        nodes = [self.graph.node_of(("v", number)) for number in numbers]
        roots = inside_first(self.graph, nodes)
        return tuple([self.graph.shapes[root][1] for root in roots if self.graph.is_variable(root)])

    def fixed_numbers(self, context):
        """The free variables, as they are now, of a context that extends the outer one."""
        return self.variables_now(self.outer_numbers + free_variables(context[0][self.outer_length:]))

    def number_now(self, number):
        """The number of the variable that a variable is equal to, or None if it is no variable any more."""
        root = self.graph.root(self.graph.node_of(("v", number)))
        return self.graph.shapes[root][1] if self.graph.is_variable(root) else None

    def mapping(self):
        """The substitution for all variables that are known."""
        return solution(self.graph)
