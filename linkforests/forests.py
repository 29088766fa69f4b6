"""Forests as tuples of parents."""

from linkforests.bounds import MAX_VERTICES
from linkforests.errors import NoVertex


def is_plain_int(value):
    """Returns whether value is an int that is not a bool."""
    return isinstance(value, int) and not isinstance(value, bool)


def is_vertex(n, value):
    """Returns whether value is a vertex of the forests with n vertices."""
    return is_plain_int(value) and 0 <= value < n


def check_vertex(forest, value):
    """Raises NoVertex if value is not a vertex of the forest."""
    if not is_vertex(len(forest), value):
        raise NoVertex(value)


def leads_to_root(parents, vertex):
    """Returns whether going from parent to parent leads from vertex to a root."""
    # A path to a root has fewer steps than there are vertices, so whoever has not met
    # a root after so many steps is in a cycle.
    at = vertex
    for step in range(len(parents)):
        at = parents[at]
    return parents[at] == at


def is_forest(value):
    """Returns whether value is a forest."""
    return forest_error(value) is None


def forest_error(value):
    """Returns the first error of value as a pair of an index and a word, or None if it is a forest."""
    if not isinstance(value, tuple):
        return (None, "tuple")
    n = len(value)
    if not 1 <= n <= MAX_VERTICES:
        return (None, "length")
    for index, parent in enumerate(value):
        if not is_vertex(n, parent):
            return (index, "parent")
    for index in range(n):
        if not leads_to_root(value, index):
            return (index, "cycle")
    return None


def single(n):
    """Returns the forest with n vertices in which each vertex is a root."""
    return tuple(range(n))


def roots(forest):
    """Returns the ascending tuple of the roots."""
    return tuple([vertex for vertex, parent in enumerate(forest) if parent == vertex])


def children_of(forest, vertex):
    """Returns the ascending tuple of the children of vertex."""
    check_vertex(forest, vertex)
    return tuple([child for child, parent in enumerate(forest) if parent == vertex and child != vertex])


def weights(forest):
    """Returns the tuple of the weights of all vertices."""
    counts = [0] * len(forest)
    for vertex in range(len(forest)):
        for above in path_of(forest, vertex):
            counts[above] += 1
    return tuple(counts)


def path_of(forest, vertex):
    """Returns the tuple of vertex, its parent, and so on, up to the root."""
    check_vertex(forest, vertex)
    path = [vertex]
    while forest[path[-1]] != path[-1]:
        path.append(forest[path[-1]])
    return tuple(path)


def tree_of(forest, vertex):
    """Returns the ascending tuple of the vertices of the tree of vertex."""
    check_vertex(forest, vertex)
    return tuple([below for below in range(len(forest)) if vertex in path_of(forest, below)])


def renamed(forest, names):
    """Returns the forest in which each vertex v is called names[v]."""
    parents = [0] * len(forest)
    for vertex, parent in enumerate(forest):
        parents[names[vertex]] = names[parent]
    return tuple(parents)
