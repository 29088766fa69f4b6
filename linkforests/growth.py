"""Growth: which forests arise from others by joins, in which orders, and join by join."""

from linkforests.bounds import LISTED
from linkforests.builds import check_built, with_parent
from linkforests.courses import (
    Course, count_orders, course_at, course_index, finishes, join_without, walk_on,
)
from linkforests.errors import NoHistory, NoIndex, NoStart, NoVertex, TooMany
from linkforests.forests import children_of, is_plain_int, is_vertex, roots, single, weights


def left_vertices(one, other):
    """Returns the ascending tuple of the vertices that are roots of one and not of other."""
    return tuple([vertex for vertex in roots(one) if other[vertex] != vertex])


def too_heavy(one, other):
    """Returns the ascending list of the vertices that are too heavy for their new parents, which are roots of one."""
    left = left_vertices(one, other)
    before = weights(one)
    after = weights(other)
    found = []
    for vertex in [vertex for vertex in left if one[other[vertex]] == other[vertex]]:
        siblings = [sibling for sibling in left if other[sibling] == other[vertex]]
        lighter = [after[sibling] for sibling in siblings if after[sibling] < after[vertex]]
        if after[vertex] > before[other[vertex]] + sum(lighter):
            found.append(vertex)
    return found


def obstacles(one, other):
    """Returns the ascending tuple of all obstacles between one and other."""
    apart = [vertex for vertex, parent in enumerate(one) if parent != vertex and other[vertex] != parent]
    closed = [vertex for vertex in left_vertices(one, other) if one[other[vertex]] != other[vertex]]
    found = [("apart", vertex) for vertex in apart]
    found += [("closed", vertex) for vertex in closed]
    found += [("heavy", vertex) for vertex in too_heavy(one, other)]
    return tuple(found)


def check_start(one, other):
    """Raises NoStart if other does not grow from one."""
    found = obstacles(one, other)
    if found:
        raise NoStart(found[0])


def grows_from(other, one):
    """Returns whether other grows from one."""
    return obstacles(one, other) == ()


def growth_certificate(one, other):
    """Returns ("growth", growth) with the smallest growth if other grows from one, otherwise an obstacle."""
    found = obstacles(one, other)
    if found:
        return found[0]
    course = Course(other, start=one)
    join_without(course, ())
    return ("growth", tuple(course.joined))


def is_growth(one, other, value):
    """Returns whether value is a growth from one to other."""
    return grows_from(other, one) and finishes(Course(other, start=one), value)


def growth_holds(one, other, value):
    """Returns whether value is ("growth", growth) with any growth from one to other, or any obstacle."""
    if not isinstance(value, tuple) or len(value) != 2:
        return False
    if value[0] == "growth":
        return is_growth(one, other, value[1])
    return is_plain_int(value[1]) and value in obstacles(one, other)


def next_joins(one, other):
    """Returns the ascending tuple of the vertices with which a growth from one to other can begin."""
    check_start(one, other)
    return choices_between(one, other)


def choices_between(one, other):
    """Returns the result of next_joins if other is known to grow from one."""
    return tuple(Course(other, start=one).possible())


def count_growths(one, other):
    """Returns the number of growths from one to other."""
    if not grows_from(other, one):
        return 0
    return count_orders(Course(other, start=one), {})


def growth_at(one, other, index):
    """Returns the growth with this index in ascending order."""
    check_start(one, other)
    if not is_plain_int(index) or not 0 <= index < count_growths(one, other):
        raise NoIndex(index)
    return course_at(Course(other, start=one), index)


def growth_index(one, other, value):
    """Returns the index of a growth in ascending order."""
    check_start(one, other)
    if not is_growth(one, other, value):
        raise NoHistory()
    return course_index(Course(other, start=one), value)


def walk_growths(one, other):
    """Yields all growths from one to other in ascending order."""
    course = Course(other, start=one)
    many = len(course.lower)
    if grows_from(other, one):
        yield from walk_on(course, many)


def count_tree_starts(forest, vertex):
    """Returns the number of starts of the tree of vertex alone."""
    loads = weights(forest)
    rows = sorted([(loads[child], count_tree_starts(forest, child)) for child in children_of(forest, vertex)])
    # The weights of the children joined so far, and in how many ways the other ones can be starts.
    sums = {0: 1}
    for load, ways in rows:
        more = {total: sums[total] * ways for total in sums}
        for total in sums:
            if load <= total + 1:
                more[total + load] = more.get(total + load, 0) + sums[total]
        sums = more
    return sum(list(sums.values()))


def count_starts(forest):
    """Returns the number of starts of a built forest."""
    check_built(forest)
    ways = 1
    for root in roots(forest):
        ways *= count_tree_starts(forest, root)
    return ways


def starts_of(forest):
    """Returns the ascending tuple of all starts of a built forest, if there are at most LISTED."""
    if count_starts(forest) > LISTED:
        raise TooMany(LISTED)
    first = single(len(forest))
    found = {first: True}
    front = [first]
    while front:
        start = front.pop()
        for vertex in choices_between(start, forest):
            longer = with_parent(start, vertex, forest[vertex])
            if longer not in found:
                found[longer] = True
                front.append(longer)
    return tuple(sorted(list(found)))


def merge_starts(forest, *starts):
    """Returns the start of a built forest in which the vertices are joined that are joined in one of these starts."""
    parents = []
    for vertex, parent in enumerate(forest):
        joined = any([start[vertex] != vertex for start in starts])
        parents.append(parent if joined else vertex)
    return tuple(parents)


def shared_joins(courses):
    """Returns the ascending list of the vertices that all these courses can join to the same parent now."""
    shared = []
    for vertex in courses[0].possible():
        parent = courses[0].parents[vertex]
        if all([course.parents[vertex] == parent and course.allows(vertex) for course in courses]):
            shared.append(vertex)
    return shared


def common_start(*forests):
    """Returns the greatest common start of built forests with the same number of vertices."""
    for forest in forests:
        check_built(forest)
    courses = [Course(forest) for forest in forests]
    start = single(len(forests[0]))
    shared = shared_joins(courses)
    while shared:
        start = with_parent(start, shared[0], forests[0][shared[0]])
        for course in courses:
            course.take(shared[0])
        shared = shared_joins(courses)
    return start


class Way:
    """A way from one forest to another one that grows from it, join by join."""

    KINDS = ("apart", "closed", "heavy")

    def __init__(self, one, other):
        self.goal = other
        self.go_to(one)

    @classmethod
    def of(cls, other):
        """Returns a way from single vertices to other."""
        return cls(single(len(other)), other)

    @property
    def at(self):
        """The forest at which the way is."""
        return self.present

    @property
    def left(self):
        """The ascending tuple of the vertices that are left to join."""
        return self.waiting

    @property
    def choices(self):
        """The ascending tuple of the vertices that can be joined next."""
        return self.following

    def __len__(self):
        return len(self.waiting)

    def move(self, forest):
        """Moves the way to a forest from which its goal grows, and returns the number of left vertices."""
        self.present = forest
        self.waiting = left_vertices(forest, self.goal)
        self.following = choices_between(forest, self.goal)
        return len(self.waiting)

    def join(self, vertex):
        """Joins vertex to its parent in the goal and returns the number of left vertices."""
        if not is_vertex(len(self.goal), vertex) or vertex not in self.following:
            raise NoVertex(vertex)
        return self.move(with_parent(self.present, vertex, self.goal[vertex]))

    def go_to(self, forest):
        """Moves the way to this forest and returns the number of left vertices."""
        check_start(forest, self.goal)
        return self.move(forest)
