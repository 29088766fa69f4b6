"""Joins, and which forests arise by joins."""

from linkforests.bounds import MAX_VERTICES
from linkforests.courses import is_whole
from linkforests.errors import BadCount, BadJoin, NotBuilt, TooMany
from linkforests.forests import children_of, is_vertex, roots, single, weights


def is_root(forest, value):
    """Returns whether value is a root of the forest."""
    return is_vertex(len(forest), value) and forest[value] == value


def are_two_roots(forest, one, other):
    """Returns whether one and other are different roots of the forest."""
    return is_root(forest, one) and is_root(forest, other) and one != other


def is_join(forest, child, parent):
    """Returns whether (child, parent) is a join in the forest."""
    if not are_two_roots(forest, child, parent):
        return False
    loads = weights(forest)
    return loads[child] <= loads[parent]


def with_parent(forest, child, parent):
    """Returns the forest in which the parent of child is another one."""
    return forest[:child] + (parent,) + forest[child + 1:]


def possible_joins(forest):
    """Returns the ascending tuple of all joins in the forest."""
    tops = roots(forest)
    loads = weights(forest)
    return tuple([(low, high) for low in tops for high in tops if low != high and loads[low] <= loads[high]])


def after_join(forest, child, parent):
    """Returns the forest after the join (child, parent)."""
    if not is_join(forest, child, parent):
        raise BadJoin(0)
    return with_parent(forest, child, parent)


def run_by(rule, n, joins):
    """Returns the forest that arises from n single vertices by joins, each of which rule must accept."""
    if not isinstance(joins, tuple):
        raise BadJoin(None)
    forest = single(n)
    for index, item in enumerate(joins):
        if not isinstance(item, tuple) or len(item) != 2 or not rule(forest, item[0], item[1]):
            raise BadJoin(index)
        forest = with_parent(forest, item[0], item[1])
    return forest


def run_joins(n, joins):
    """Returns the forest that arises from n single vertices by these joins."""
    return run_by(is_join, n, joins)


def heavy_children(forest):
    """Returns the ascending tuple of all heavy children."""
    loads = weights(forest)
    heavy = []
    for child, parent in enumerate(forest):
        lighter = [loads[other] for other in children_of(forest, parent) if loads[other] < loads[child]]
        if child != parent and loads[child] > 1 + sum(lighter):
            heavy.append(child)
    return tuple(heavy)


def is_built(forest):
    """Returns whether the forest arises by joins."""
    return heavy_children(forest) == ()


def check_built(forest):
    """Raises NotBuilt if the forest is not built."""
    heavy = heavy_children(forest)
    if heavy:
        raise NotBuilt(heavy[0])


def certificate(forest):
    """Returns ("history", history) if the forest is built, otherwise ("heavy", child)."""
    heavy = heavy_children(forest)
    if heavy:
        return ("heavy", heavy[0])
    # In the order of the weights each vertex comes after its children and after its lighter siblings.
    rows = sorted([(weight, vertex) for vertex, weight in enumerate(weights(forest)) if forest[vertex] != vertex])
    return ("history", tuple([vertex for weight, vertex in rows]))


def certificate_holds(forest, value):
    """Returns whether value is a certificate as certificate returns one, with any history or heavy child."""
    if not isinstance(value, tuple) or len(value) != 2:
        return False
    word, part = value
    if word == "history":
        return is_whole(forest, part)
    return word == "heavy" and is_vertex(len(forest), part) and part in heavy_children(forest)


def joins_of(forest, history):
    """Returns the tuple of the joins of a history of the forest."""
    return tuple([(vertex, forest[vertex]) for vertex in history])


def beside(*forests):
    """Returns the forest in which these forests stand side by side."""
    if not forests:
        raise BadCount()
    if sum([len(forest) for forest in forests]) > MAX_VERTICES:
        raise TooMany(MAX_VERTICES)
    parents = []
    for forest in forests:
        start = len(parents)
        parents += [start + parent for parent in forest]
    return tuple(parents)


def states_along(forest, history):
    """Yields the forests from single vertices to the forest, join by join along a history of it."""
    state = single(len(forest))
    yield state
    for vertex in history:
        state = with_parent(state, vertex, forest[vertex])
        yield state
