"""Depths: how deep and how high the vertices of forests are."""

from linkforests.bounds import MAX_COUNT
from linkforests.errors import BadCount
from linkforests.forests import children_of, is_plain_int, path_of, roots, weights


def depths(forest):
    """Returns the tuple of the depths of all vertices."""
    return tuple([len(path_of(forest, vertex)) - 1 for vertex in range(len(forest))])


def vertex_heights(forest):
    """Returns the tuple of the heights of all vertices."""
    tops = [0] * len(forest)
    for vertex in range(len(forest)):
        for steps, above in enumerate(path_of(forest, vertex)):
            tops[above] = max(tops[above], steps)
    return tuple(tops)


def total_depth(forest):
    """Returns the sum of the depths of all vertices."""
    return sum(depths(forest))


def thin_vertices(forest):
    """Returns the ascending tuple of the vertices that are lighter than a built tree of their height can be."""
    tops = vertex_heights(forest)
    return tuple([vertex for vertex, load in enumerate(weights(forest)) if load < 1 << tops[vertex]])


def check_count(n, most):
    """Raises BadCount if n is not an integer from 1 to most."""
    if not is_plain_int(n) or not 1 <= n <= most:
        raise BadCount()


def greatest_height(n):
    """Returns the greatest height of a vertex of all built forests with n vertices."""
    check_count(n, MAX_COUNT)
    return n.bit_length() - 1


def greatest_total_depth(n):
    """Returns the greatest total depth of all built forests with n vertices."""
    check_count(n, MAX_COUNT)
    total = 0
    digit = 1
    while digit < n:
        # Of each 2 * digit integers in a row, the second half has this binary digit.
        total += n // (2 * digit) * digit + max(0, n % (2 * digit) - digit)
        digit *= 2
    return total


def parent_by_digits(vertex):
    """Returns the integer that results if the lowest binary digit 1 of vertex is replaced by 0, or 0 for 0."""
    return vertex & (vertex - 1) if vertex else 0


def deepest_forest(n):
    """Returns a built forest with n vertices that has the greatest total depth and the greatest height."""
    return tuple([parent_by_digits(vertex) for vertex in range(n)])


def tree_with_height(n, height):
    """Returns a built tree with n vertices whose root 0 has this height, or None if there is none."""
    least = 0 if n == 1 else 1
    if not is_plain_int(height) or not least <= height <= greatest_height(n):
        return None
    return tuple([parent_by_digits(vertex) if vertex < 1 << height else 0 for vertex in range(n)])


def tree_with_total_depth(n, total):
    """Returns a built tree with n vertices and this total depth, or None if there is none."""
    if not is_plain_int(total) or not n - 1 <= total <= greatest_total_depth(n):
        return None
    return joined_tree(n, total)


def joined_tree(n, total):
    """Returns a built tree with the root 0 and a total depth that a built tree with n vertices can have."""
    if n == 1:
        return (0,)
    # The lightest tree that is joined last and allows this total depth allows all smaller ones from n - 2 + low on.
    low = 1
    while low + greatest_total_depth(low) + greatest_total_depth(n - low) < total:
        low += 1
    upper = min(greatest_total_depth(n - low), total - low - (low - 1))
    top = joined_tree(n - low, upper)
    below = joined_tree(low, total - low - upper)
    return top + (0,) + tuple([n - low + parent for parent in below[1:]])


def doubling_height(forest):
    """Returns h if the forest is a tree of 2 ** h vertices that arises by joins of equal trees, otherwise None."""
    loads = weights(forest)
    for vertex in range(len(forest)):
        found = sorted([loads[child] for child in children_of(forest, vertex)])
        if found != [1 << at for at in range(len(found))]:
            return None
    tops = roots(forest)
    return len(children_of(forest, tops[0])) if len(tops) == 1 else None
