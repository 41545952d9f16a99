"""Substitutions that make the sides of equations equal."""

from shapewright.errors import NotUnifiable, TooLarge
from shapewright.terms import MAX_DEPTH, MAX_SIZE, parts_of_shape, with_parts


def unifies(mapping, equations):
    """Whether the substitution makes the two sides of each equation equal."""
    return all(same_after(left, right, mapping) for left, right in equations)


def same_after(left, right, mapping):
    """Whether two shapes are equal after the substitution, which may make them too large to be built."""
    if left[0] == "v":
        return becomes(right, mapping.get(left[1], left), mapping)
    if right[0] == "v":
        return becomes(left, mapping.get(right[1], right), mapping)
    if head_of(left) != head_of(right):
        return False
    for first, second in zip(parts_of_shape(left), parts_of_shape(right)):
        if not same_after(first, second, mapping):
            return False
    return True


def becomes(shape, wanted, mapping):
    """Whether the substitution makes the shape equal to the wanted one."""
    if shape[0] == "v":
        return mapping.get(shape[1], shape) == wanted
    if head_of(shape) != head_of(wanted):
        return False
    for first, second in zip(parts_of_shape(shape), parts_of_shape(wanted)):
        if not becomes(first, second, mapping):
            return False
    return True


def head_of(shape):
    """What two shapes that are no variables must share, beside their parts."""
    stamp = shape[1] if shape[0] == "c" else None
    return shape[0], stamp, len(parts_of_shape(shape))


def unify(equations):
    """A most general unifier of the equations."""
    graph = Graph()
    for left, right in equations:
        equate(graph, left, right)
    return solution(graph)


def equate(graph, left, right):
    """Merges the nodes of two shapes and all that must be merged then; raises NotUnifiable if they differ."""
    waiting = [(graph.node_of(left), graph.node_of(right))]
    while waiting:
        first, second = waiting.pop()
        waiting.extend(graph.merge(first, second))


class Graph:
    """Shapes as nodes with numbers. Nodes that must be equal are merged into one class, so that parts that
    many shapes share are compared only once, however large these shapes are when they are written out."""

    def __init__(self):
        self.shapes = []
        self.parts = []
        self.above = []
        self.variable_nodes = {}

    def node_of(self, shape):
        """The number of the node of a shape; a variable has the same node wherever it occurs."""
        if shape[0] == "v" and shape[1] in self.variable_nodes:
            return self.variable_nodes[shape[1]]
        parts = []
        for part in parts_of_shape(shape):
            parts.append(self.node_of(part))
        node = len(self.shapes)
        self.shapes.append(shape)
        self.parts.append(parts)
        self.above.append(node)
        if shape[0] == "v":
            self.variable_nodes[shape[1]] = node
        return node

    def root(self, node):
        """The node that stands for the class of a node."""
        while self.above[node] != node:
            self.above[node] = self.above[self.above[node]]
            node = self.above[node]
        return node

    def is_variable(self, node):
        return self.shapes[node][0] == "v"

    def merge(self, left, right):
        """Merges the classes of two nodes; returns the pairs of nodes that must be merged, too."""
        left, right = self.root(left), self.root(right)
        if left == right:
            return []
        if self.gives_way(left, right):
            left, right = right, left
        self.above[right] = left
        if self.is_variable(right):
            return []
        if head_of(self.shapes[left]) != head_of(self.shapes[right]):
            raise NotUnifiable("two shapes differ")
        return list(zip(self.parts[left], self.parts[right]))

    def gives_way(self, left, right):
        """Whether the left root is a variable that the right one replaces: of two variables, the older one is kept."""
        if not self.is_variable(left):
            return False
        return not self.is_variable(right) or self.shapes[right][1] < self.shapes[left][1]

    def parts_of_class(self, root):
        return [self.root(part) for part in self.parts[root]]


def inside_first(graph, nodes):
    """The roots of all classes in the nodes, each behind those of its parts; raises NotUnifiable if a class
    contains itself."""
    order = []
    begun = {}
    done = {}
    for node in nodes:
        waiting = [graph.root(node)]
        while waiting:
            root = waiting[-1]
            if root not in begun:
                begun[root] = True
                waiting.extend(parts_to_visit(graph, root, begun, done))
            else:
                waiting.pop()
                if root not in done:
                    done[root] = True
                    order.append(root)
    return order


def parts_to_visit(graph, root, begun, done):
    """The parts of a class that are not done. All that is begun and not done contains this class."""
    parts = [part for part in graph.parts_of_class(root) if part not in done]
    if any(part in begun for part in parts):
        raise NotUnifiable("a shape contains itself")
    return parts


class Built:
    """The shapes that the classes in some nodes stand for, with their sizes and depths."""

    def __init__(self, graph, nodes):
        self.sizes = {}
        self.depths = {}
        self.shapes = {}
        for root in inside_first(graph, nodes):
            parts = graph.parts_of_class(root)
            self.sizes[root] = 1 + sum(self.sizes[part] for part in parts)
            self.depths[root] = 1 + max([self.depths[part] for part in parts], default=0)
            # Parts are shared, so that even a shape that is far too large costs little here.
            self.shapes[root] = with_parts(graph.shapes[root], [self.shapes[part] for part in parts])

    def shape_of(self, root):
        """The shape of a class; raises TooLarge if it is beyond the bounds."""
        if self.sizes[root] > MAX_SIZE or self.depths[root] > MAX_DEPTH:
            raise TooLarge("a shape of the unifier is too large")
        return self.shapes[root]


def solution(graph):
    """The substitution that the classes stand for."""
    built = Built(graph, list(range(len(graph.shapes))))
    mapping = {}
    for number, node in graph.variable_nodes.items():
        root = graph.root(node)
        shape = built.shape_of(root)
        if root != node:
            mapping[number] = shape
    return mapping
