"""Courses: the joins on the way from one forest to another. What builds, histories, orders, growth and ranks share."""

from linkforests.errors import NoBeginning
from linkforests.forests import is_vertex, single, weights


class Course:
    """The joins from a start, by default single vertices, to a forest: those done so far, and those that can follow.

    What can follow is known only if no parent differs, and if nothing is joined below a vertex that is no root of
    the start.
    """

    def __init__(self, parents, start=None):
        begun = single(len(parents)) if start is None else start
        self.parents = parents
        self.full = weights(parents)
        self.grown = list(weights(begun))
        self.lower = [vertex for vertex, parent in enumerate(parents) if parent != vertex and begun[vertex] == vertex]
        self.joined = []

    def allows(self, vertex):
        """Returns whether vertex is possible now."""
        if vertex not in self.lower or vertex in self.joined:
            return False
        # A tree has its full weight exactly if all children have been joined to it.
        return self.grown[vertex] == self.full[vertex] and self.full[vertex] <= self.grown[self.parents[vertex]]

    def possible(self):
        """Returns the ascending list of the vertices that are possible now."""
        return [vertex for vertex in self.lower if self.allows(vertex)]

    def take(self, vertex):
        """Joins vertex, which must be possible."""
        self.joined.append(vertex)
        self.grown[self.parents[vertex]] += self.full[vertex]

    def take_back(self):
        """Undoes the last join and returns its vertex."""
        vertex = self.joined.pop()
        self.grown[self.parents[vertex]] -= self.full[vertex]
        return vertex


def follows(course, value):
    """Joins the items of value one after another; returns whether all of them can be joined in this order."""
    if not isinstance(value, tuple):
        return False
    for item in value:
        if not is_vertex(len(course.parents), item) or not course.allows(item):
            return False
        course.take(item)
    return True


def finishes(course, value):
    """Joins the items of value one after another; returns whether they are all joins that are left to do."""
    return follows(course, value) and len(course.joined) == len(course.lower)


def begun_course(forest, value):
    """Returns the course that has joined the items of value; raises NoBeginning if there is none."""
    course = Course(forest)
    if not follows(course, value):
        raise NoBeginning()
    return course


def is_whole(forest, value):
    """Returns whether value is a history of the forest."""
    return finishes(Course(forest), value)


def join_without(course, barred):
    """Joins all that can be joined without the barred vertices, always the smallest one that is possible."""
    # What is possible stays possible, so the order does not matter for what is joined in the end.
    choices = [vertex for vertex in course.possible() if vertex not in barred]
    while choices:
        course.take(choices[0])
        choices = [vertex for vertex in course.possible() if vertex not in barred]


def fill(course, steps):
    """Joins the smallest vertex that is possible, again and again, until steps vertices are joined."""
    while len(course.joined) < steps:
        course.take(course.possible()[0])


def move_on(course, kept):
    """Moves the course to the next greater beginning with as many joins; returns whether there is one.

    The first joins, as many as kept says, stay as they are.
    """
    steps = len(course.joined)
    while len(course.joined) > kept:
        last = course.take_back()
        greater = [vertex for vertex in course.possible() if vertex > last]
        if greater:
            course.take(greater[0])
            fill(course, steps)
            return True
    return False


def walk_on(course, steps):
    """Yields in ascending order the vertices joined by all courses of steps joins that go on from this one."""
    kept = len(course.joined)
    going = kept <= steps <= len(course.lower)
    if going:
        fill(course, steps)
    while going:
        yield tuple(course.joined)
        going = move_on(course, kept)


def binomial(n, k):
    """Returns in how many ways k of n things can be chosen."""
    ways = 1
    for step in range(k):
        ways = ways * (n - step) // (step + 1)
    return ways


def room_by_weight(weight, sizes):
    """Returns how heavy a child may be for a root of this weight to which children of these weights are joined."""
    return weight + sum(sizes)


def count_mixes(reach, room, parts, known):
    """Returns in how many ways the joins of some children and the joins below them can be mixed.

    parts is the ascending tuple of the pairs of the size of a child and the number of joins below it. A child can be
    joined if its size is at most reach(room, sizes) of those joined before, where room stands for what their parent
    is without them. The joins below one child are taken as if their order were given. known keeps the results.
    """
    if not parts:
        return 1
    key = (room, parts)
    if key not in known:
        ways = 0
        for at, part in enumerate(parts):
            # Children with the same pair are alike, so the first of them stands for all.
            if at == 0 or parts[at - 1] != part:
                ways += parts.count(part) * count_last(reach, room, parts, at, known)
        known[key] = ways
    return known[key]


def count_last(reach, room, parts, at, known):
    """Returns in how many of the ways of count_mixes the child with the pair parts[at] is joined last."""
    size, below = parts[at]
    others = parts[:at] + parts[at + 1:]
    if size > reach(room, [other for other, more in others]):
        return 0
    joins = len(parts) + sum([more for other, more in parts])
    # Its own join ends all, and the joins below it stand anywhere before that.
    return binomial(joins - 1, below) * count_mixes(reach, room, others, known)


def count_orders(course, known):
    """Returns in how many orders all joins that the course has not done can be done; known as in count_mixes."""
    parts = [[] for parent in course.parents]
    ways = 1
    joins = 0
    # In the order of the weights each vertex comes after its children.
    rows = sorted([(course.full[vertex], vertex) for vertex in range(len(parts))])
    for weight, vertex in rows:
        below = len(parts[vertex]) + sum([more for other, more in parts[vertex]])
        ways *= count_mixes(room_by_weight, course.grown[vertex], tuple(sorted(parts[vertex])), known)
        if course.parents[vertex] == vertex:
            joins += below
            ways *= binomial(joins, below)
        elif vertex in course.lower and vertex not in course.joined:
            parts[course.parents[vertex]].append((weight, below))
    return ways


def count_after(course, vertex, known):
    """Returns in how many orders a course can go on after it joins vertex; known as in count_mixes."""
    course.take(vertex)
    ways = count_orders(course, known)
    course.take_back()
    return ways


def course_at(course, index):
    """Returns the tuple of all joins with this index, in ascending order, that a course from its beginning can do."""
    known = {}
    rest = index
    while len(course.joined) < len(course.lower):
        rest = take_turn(course, rest, known)
    return tuple(course.joined)


def take_turn(course, index, known):
    """Joins the vertex with which the course with this index goes on; returns its index among those that do so."""
    rest = index
    choices = course.possible()
    for vertex in choices:
        ways = count_after(course, vertex, known)
        if rest < ways:
            course.take(vertex)
            break
        rest -= ways
    return rest


def course_index(course, value):
    """Returns the index of the tuple of all joins, in ascending order, that a course from its beginning can do."""
    known = {}
    index = 0
    for vertex in value:
        smaller = [other for other in course.possible() if other < vertex]
        index += sum([count_after(course, other, known) for other in smaller])
        course.take(vertex)
    return index
