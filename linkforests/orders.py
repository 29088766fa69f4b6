"""Orders: beginnings of histories, which joins come before others, and when each join can happen."""

from linkforests.builds import check_built
from linkforests.courses import Course, begun_course, count_orders, follows, is_whole, join_without, walk_on
from linkforests.errors import NoVertex, SameVertex
from linkforests.forests import children_of, is_plain_int, is_vertex, tree_of, weights


def built_course(forest, beginning):
    """Returns the course after a beginning of a forest; raises NotBuilt or NoBeginning if there is none."""
    check_built(forest)
    return begun_course(forest, beginning)


def is_beginning(forest, value):
    """Returns whether value is a beginning of the forest."""
    check_built(forest)
    return follows(Course(forest), value)


def next_vertices(forest, beginning):
    """Returns the ascending tuple of the vertices that are possible after the beginning."""
    return tuple(built_course(forest, beginning).possible())


def count_rest(forest, beginning):
    """Returns the number of histories that begin with the beginning."""
    return count_orders(built_course(forest, beginning), {})


def check_lower(forest, value):
    """Raises NoVertex if value is not a vertex of the forest that is no root."""
    if not is_vertex(len(forest), value) or forest[value] == value:
        raise NoVertex(value)


def check_one(forest, vertex):
    """Raises NotBuilt or NoVertex if there is no vertex of a built forest that is no root."""
    check_built(forest)
    check_lower(forest, vertex)


def check_two(forest, one, other):
    """Raises NotBuilt or NoVertex if there are no two vertices of a built forest that are no roots."""
    check_one(forest, one)
    check_lower(forest, other)


def check_different(forest, one, other):
    """Raises the errors of check_two, and SameVertex if the vertices are equal."""
    check_two(forest, one, other)
    if one == other:
        raise SameVertex()


def course_without(forest, vertex):
    """Returns the course that has joined all that can be joined before vertex."""
    course = Course(forest)
    join_without(course, (vertex,))
    return course


def vertices_before(forest, vertex):
    """Returns the ascending tuple of all vertices that can be joined before vertex."""
    return tuple(sorted(course_without(forest, vertex).joined))


def always_before(forest, one, other):
    """Returns whether one is joined before other in every history."""
    check_two(forest, one, other)
    return one != other and other not in vertices_before(forest, one)


def order_pairs(forest):
    """Returns the ascending tuple of all pairs (one, other) such that one is always joined before other."""
    check_built(forest)
    lower = [vertex for vertex, parent in enumerate(forest) if parent != vertex]
    pairs = []
    for one in lower:
        free = vertices_before(forest, one)
        pairs += [(one, other) for other in lower if other != one and other not in free]
    return tuple(pairs)


def finished(course, vertex):
    """Returns the history in which the course goes on with vertex."""
    course.take(vertex)
    join_without(course, ())
    return tuple(course.joined)


def order_certificate(forest, one, other):
    """Returns ("before", vertices) if one is always joined before other, otherwise ("after", history)."""
    check_different(forest, one, other)
    course = course_without(forest, one)
    if other in course.joined:
        return ("after", finished(course, one))
    return ("before", tuple(sorted(course.joined)))


def is_barrier(forest, one, other, value):
    """Returns whether value is a tuple of vertices as in a certificate that one is always joined before other."""
    if not isinstance(value, tuple) or not all([is_plain_int(item) for item in value]):
        return False
    # Only all that can be joined before one leaves nothing possible but one.
    return value == vertices_before(forest, one) and other not in value


def order_holds(forest, one, other, value):
    """Returns whether value is a certificate for one and other."""
    check_different(forest, one, other)
    if not isinstance(value, tuple) or len(value) != 2:
        return False
    word, part = value
    if word == "before":
        return is_barrier(forest, one, other, part)
    return word == "after" and is_whole(forest, part) and part.index(other) < part.index(one)


def sibling_sums(forest, vertex):
    """Returns a dict of the sums of weights of siblings that can all be joined without vertex, with such siblings."""
    loads = weights(forest)
    siblings = [other for other in children_of(forest, forest[vertex]) if other != vertex]
    sums = {0: ()}
    # Siblings that can be joined in some order can be joined in the order of their weights.
    rows = sorted([(loads[sibling], sibling) for sibling in siblings])
    for load, sibling in rows:
        for total in list(sums):
            if load <= total + 1 and total + load not in sums:
                sums[total + load] = sums[total] + (sibling,)
    return sums


def least_siblings(forest, vertex):
    """Returns siblings of the least sum of weights after which vertex is light enough to be joined."""
    load = weights(forest)[vertex]
    sums = sibling_sums(forest, vertex)
    return sums[min([total for total in sums if total >= load - 1])]


def least_time(forest, vertex):
    """Returns the least number t such that vertex is the t-th one in some history."""
    check_one(forest, vertex)
    loads = weights(forest)
    return loads[vertex] + sum([loads[sibling] for sibling in least_siblings(forest, vertex)])


def greatest_time(forest, vertex):
    """Returns the greatest number t such that vertex is the t-th one in some history."""
    check_one(forest, vertex)
    return 1 + len(vertices_before(forest, vertex))


def early_history(forest, vertex):
    """Returns a history in which vertex has its least time."""
    check_one(forest, vertex)
    needed = [below for below in tree_of(forest, vertex) if below != vertex]
    for sibling in least_siblings(forest, vertex):
        needed += tree_of(forest, sibling)
    course = Course(forest)
    join_without(course, [other for other in range(len(forest)) if other not in needed])
    return finished(course, vertex)


def late_history(forest, vertex):
    """Returns a history in which vertex has its greatest time."""
    check_one(forest, vertex)
    return finished(course_without(forest, vertex), vertex)


def walk_beginnings(forest, *first, steps=None):
    """Yields in ascending order all beginnings of so many joins, or all histories, that begin with first."""
    course = built_course(forest, first)
    many = len(course.lower) if steps is None else steps
    yield from walk_on(course, many)


def merged_beginning(forest, *beginnings, complete=False):
    """Returns the beginning of all vertices of these beginnings, or a history that begins with it."""
    check_built(forest)
    merged = Course(forest)
    for beginning in beginnings:
        begun = begun_course(forest, beginning).joined
        for vertex in [vertex for vertex in begun if vertex not in merged.joined]:
            merged.take(vertex)
    if complete:
        join_without(merged, ())
    return tuple(merged.joined)
