"""Histories: the orders in which the joins of a forest can be done."""

from linkforests.bounds import LISTED
from linkforests.builds import check_built, is_built
from linkforests.courses import (
    Course, begun_course, count_mixes, count_orders, course_at, course_index, is_whole, join_without, move_on,
    room_by_weight, walk_on,
)
from linkforests.errors import NoHistory, NoIndex, TooMany
from linkforests.forests import children_of, is_plain_int, tree_of, weights


def is_history(forest, value):
    """Returns whether value is a history of the forest."""
    return is_whole(forest, value)


def check_history(forest, value):
    """Raises NoHistory if value is not a history of the forest."""
    if not is_history(forest, value):
        raise NoHistory()


def count_child_orders(forest, vertex):
    """Returns in how many orders the children of vertex can be joined to it."""
    loads = weights(forest)
    parts = sorted([(loads[child], 0) for child in children_of(forest, vertex)])
    return count_mixes(room_by_weight, 1, tuple(parts), {})


def count_tree_histories(forest, vertex):
    """Returns in how many orders all vertices below vertex can be joined."""
    loads = weights(forest)
    known = {}
    ways = 1
    for top in tree_of(forest, vertex):
        parts = sorted([(loads[child], loads[child] - 1) for child in children_of(forest, top)])
        ways *= count_mixes(room_by_weight, 1, tuple(parts), known)
    return ways


def count_histories(forest):
    """Returns the number of histories of the forest."""
    return count_orders(Course(forest), {})


def histories_of(forest):
    """Returns the ascending tuple of all histories of the forest, if there are at most LISTED."""
    if count_histories(forest) > LISTED:
        raise TooMany(LISTED)
    return tuple(each_history(forest))


def first_history(forest, *begun):
    """Returns the smallest history that begins with the vertices begun."""
    check_built(forest)
    course = begun_course(forest, begun)
    join_without(course, ())
    return tuple(course.joined)


def last_history(forest, *begun):
    """Returns the greatest history that begins with the vertices begun."""
    check_built(forest)
    course = begun_course(forest, begun)
    while len(course.joined) < len(course.lower):
        course.take(course.possible()[-1])
    return tuple(course.joined)


def next_history(forest, value):
    """Returns the next greater history, or None after the last one."""
    check_history(forest, value)
    course = begun_course(forest, value)
    if move_on(course, 0):
        return tuple(course.joined)
    return None


def history_at(forest, index):
    """Returns the history with this index in ascending order."""
    if not is_plain_int(index) or not 0 <= index < count_histories(forest):
        raise NoIndex(index)
    return course_at(Course(forest), index)


def history_index(forest, value):
    """Returns the index of a history in ascending order."""
    check_history(forest, value)
    return course_index(Course(forest), value)


def weights_along(forest, value):
    """Returns for each join of a history the weights of the child and of the parent just before it."""
    check_history(forest, value)
    course = Course(forest)
    pairs = []
    for vertex in value:
        pairs.append((course.full[vertex], course.grown[forest[vertex]]))
        course.take(vertex)
    return tuple(pairs)


def exchanged(history, at):
    """Returns the history with its items at and at + 1 exchanged."""
    return history[:at] + (history[at + 1], history[at]) + history[at + 2:]


def free_exchanges(forest, value):
    """Returns the ascending tuple of the indexes at which two neighbours of a history can be exchanged."""
    check_history(forest, value)
    return tuple([at for at in range(len(value) - 1) if is_history(forest, exchanged(value, at))])


def step_towards(present, goal):
    """Returns the next history on the path from present to goal, which is another history."""
    differing = [at for at in range(len(goal)) if present[at] != goal[at]]
    return exchanged(present, present.index(goal[differing[0]]) - 1)


def history_path(forest, first, second):
    """Returns the shortest history path on which the items of second get to their places one after another."""
    check_history(forest, first)
    check_history(forest, second)
    path = [first]
    while path[-1] != second:
        path.append(step_towards(path[-1], second))
    return tuple(path)


def count_inversions(first, second):
    """Returns the number of pairs of vertices that have different orders in two histories."""
    places = [second.index(vertex) for vertex in first]
    return sum([len([place for place in places[:at] if place > places[at]]) for at in range(len(places))])


def is_exchange(one, other):
    """Returns whether one of two histories arises from the other one by an exchange of two neighbours."""
    differing = [at for at in range(len(one)) if one[at] != other[at]]
    return len(differing) == 2 and differing[1] == differing[0] + 1


def history_path_holds(forest, first, second, value):
    """Returns whether value is a shortest history path from first to second."""
    check_history(forest, first)
    check_history(forest, second)
    if not isinstance(value, tuple) or len(value) != count_inversions(first, second) + 1:
        return False
    if not all([is_history(forest, item) for item in value]):
        return False
    steps = [is_exchange(value[at], value[at + 1]) for at in range(len(value) - 1)]
    return value[0] == first and value[-1] == second and all(steps)


def each_history(forest):
    """Yields all histories of the forest in ascending order."""
    course = Course(forest)
    many = len(course.lower)
    if is_built(forest):
        yield from walk_on(course, many)
