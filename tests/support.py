"""Values and forests that several tests use."""

from itertools import product
from random import Random

MANY_KINDS = (
    None, True, False, 0, 1, -1, 24, 10 ** 39, -(10 ** 39), "", "0", "vertex\n", (), (0,), (True, None), [],
    [0, [1]], {}, {"a": [1, {"b": ()}]},
)


def nested(levels):
    """Returns a tuple in a list in a dict, and so on, this many levels deep."""
    value = 0
    for level in range(levels):
        value = ((value,), [value], {"in": value})[level % 3]
    return value


def not_vertices(n):
    """Returns values that are no vertices of a forest with n vertices."""
    return (
        n, n + 1, -1, -n, True, False, None, "", "0", "a", (), (0,), [], [0], {}, {"0": 0}, 10 ** 39, -(10 ** 39),
        nested(60),
    )


def all_tuples(n):
    """Returns all tuples of n vertices, forests or not."""
    return list(product(range(n), repeat=n))


def grounded(parents):
    """Returns the set of the vertices from which parents lead to a root."""
    known = {vertex for vertex, parent in enumerate(parents) if vertex == parent}
    while True:
        more = {vertex for vertex, parent in enumerate(parents) if parent in known}
        if more <= known:
            return known
        known |= more


def small_forests():
    """Returns all forests of 1 to 4 vertices."""
    return [parents for n in range(1, 5) for parents in all_tuples(n) if len(grounded(parents)) == n]


def random_forest(chance, n):
    """Returns a forest of n vertices whose vertices are numbered in any order."""
    names = chance.sample(range(n), n)
    parents = [0] * n
    for at, name in enumerate(names):
        parents[name] = chance.choice(names[:at + 1])
    return tuple(parents)


def up_path(n):
    """Returns the path in which the parent of each vertex is the one before it."""
    return tuple(max(vertex - 1, 0) for vertex in range(n))


def down_path(n):
    """Returns the path in which the parent of each vertex is the one after it."""
    return tuple(min(vertex + 1, n - 1) for vertex in range(n))


def large_forests():
    """Returns forests of each number of vertices from 1 to 24, paths and stars among them."""
    chance = Random(24)
    forests = []
    for n in range(1, 25):
        forests += [up_path(n), down_path(n), (n // 2,) * n, tuple(range(n))]
        forests += [random_forest(chance, n) for repeat in range(12)]
    return forests


def sample_forests():
    """Returns all small forests, and some of each greater number of vertices."""
    return small_forests() + large_forests()
