"""Joins by rank: joins in which the lower tree is put below the higher one."""

from linkforests.builds import are_two_roots, run_by, with_parent
from linkforests.courses import binomial, count_mixes
from linkforests.depths import vertex_heights
from linkforests.forests import children_of, is_plain_int, roots, single, weights


def heights(forest):
    """Returns the tuple of the heights of all vertices."""
    return vertex_heights(forest)


def gaps(forest):
    """Returns the ascending tuple of all gaps."""
    tops = heights(forest)
    found = []
    for child in lower_vertices(forest):
        present = [tops[other] for other in children_of(forest, forest[child])]
        found += [(child, rank) for rank in range(tops[child]) if rank not in present]
    return tuple(found)


def lower_vertices(forest):
    """Returns the ascending list of the vertices that are no roots."""
    return [vertex for vertex, parent in enumerate(forest) if parent != vertex]


def is_ranked(forest):
    """Returns whether the forest arises by joins by rank."""
    return gaps(forest) == ()


def is_rank_join(forest, child, parent):
    """Returns whether (child, parent) is a join by rank in the forest."""
    if not are_two_roots(forest, child, parent):
        return False
    tops = heights(forest)
    return tops[child] <= tops[parent]


def run_rank_joins(n, joins):
    """Returns the forest that arises from n single vertices by these joins by rank."""
    return run_by(is_rank_join, n, joins)


def is_rank_history(forest, value):
    """Returns whether value is a rank history of the forest."""
    if not isinstance(value, tuple) or not all([is_plain_int(item) for item in value]):
        return False
    if sorted(value) != lower_vertices(forest):
        return False
    state = single(len(forest))
    for vertex in value:
        if not is_rank_join(state, vertex, forest[vertex]):
            return False
        state = with_parent(state, vertex, forest[vertex])
    return True


def rank_certificate(forest):
    """Returns ("history", history) if the forest is ranked, otherwise ("gap", child, rank)."""
    found = gaps(forest)
    if found:
        child, rank = found[0]
        return ("gap", child, rank)
    # In the order of the heights each vertex comes after its children and after its lower siblings.
    tops = heights(forest)
    rows = sorted([(tops[vertex], vertex) for vertex in lower_vertices(forest)])
    return ("history", tuple([vertex for top, vertex in rows]))


def rank_certificate_holds(forest, value):
    """Returns whether value is a certificate as rank_certificate returns one, with any rank history or gap."""
    if not isinstance(value, tuple):
        return False
    if len(value) == 2:
        return value[0] == "history" and is_rank_history(forest, value[1])
    if len(value) != 3 or not is_plain_int(value[1]) or not is_plain_int(value[2]):
        return False
    return value[0] == "gap" and value[1:] in gaps(forest)


def room_by_height(height, sizes):
    """Returns how high a child may be for a root of this height to which children of these heights are joined."""
    return max([height] + [size + 1 for size in sizes])


def count_rank_histories(forest):
    """Returns the number of rank histories of the forest."""
    tops = heights(forest)
    loads = weights(forest)
    known = {}
    ways = 1
    for vertex in range(len(forest)):
        parts = sorted([(tops[child], loads[child] - 1) for child in children_of(forest, vertex)])
        ways *= count_mixes(room_by_height, 0, tuple(parts), known)
    joins = 0
    for root in roots(forest):
        # The joins of different trees can be mixed in any way.
        joins += loads[root] - 1
        ways *= binomial(joins, loads[root] - 1)
    return ways
