"""Courses: the joins on the way from single vertices to a forest. What builds, histories and orders share."""

from linkforests.errors import NoBeginning
from linkforests.forests import is_vertex, roots, weights


class Course:
    """The vertices of a forest that are joined so far, in order, and those that can follow."""

    def __init__(self, parents):
        self.parents = parents
        self.full = weights(parents)
        self.grown = [1] * len(parents)
        self.joined = []

    def allows(self, vertex):
        """Returns whether vertex is possible now."""
        parent = self.parents[vertex]
        if parent == vertex or vertex in self.joined:
            return False
        # A tree has its full weight exactly if all children have been joined to it.
        return self.grown[vertex] == self.full[vertex] and self.full[vertex] <= self.grown[parent]

    def possible(self):
        """Returns the ascending list of the vertices that are possible now."""
        return [vertex for vertex in range(len(self.parents)) if self.allows(vertex)]

    def take(self, vertex):
        """Joins vertex, which must be possible."""
        self.joined.append(vertex)
        self.grown[self.parents[vertex]] += self.full[vertex]

    def take_back(self):
        """Undoes the last join and returns its vertex."""
        vertex = self.joined.pop()
        self.grown[self.parents[vertex]] -= self.full[vertex]
        return vertex


def count_joins(forest):
    """Returns the number of joins of each history of the forest."""
    return len(forest) - len(roots(forest))


def course_along(forest, value):
    """Returns the course that has joined the items of value, or None if they cannot be joined in this order."""
    if not isinstance(value, tuple):
        return None
    course = Course(forest)
    for item in value:
        if not is_vertex(len(forest), item) or not course.allows(item):
            return None
        course.take(item)
    return course


def begun_course(forest, value):
    """Returns the course that has joined the items of value; raises NoBeginning if there is none."""
    course = course_along(forest, value)
    if course is None:
        raise NoBeginning()
    return course


def is_whole(forest, value):
    """Returns whether value is a history of the forest."""
    course = course_along(forest, value)
    return course is not None and len(course.joined) == count_joins(forest)


def join_without(course, barred):
    """Joins all that can be joined without the barred vertices, always the smallest one that is possible."""
    # What is possible stays possible, so the order does not matter for what is joined in the end.
    choices = [vertex for vertex in course.possible() if vertex not in barred]
    while choices:
        course.take(choices[0])
        choices = [vertex for vertex in course.possible() if vertex not in barred]


def fill(course, steps):
    """Joins the smallest vertex that is possible, again and again, until steps vertices are joined."""
    while len(course.joined) < steps:
        course.take(course.possible()[0])


def move_on(course, kept):
    """Moves the course to the next greater beginning with as many joins; returns whether there is one.

    The first joins, as many as kept says, stay as they are.
    """
    steps = len(course.joined)
    while len(course.joined) > kept:
        last = course.take_back()
        greater = [vertex for vertex in course.possible() if vertex > last]
        if greater:
            course.take(greater[0])
            fill(course, steps)
            return True
    return False


def walk_on(forest, begun, steps):
    """Yields in ascending order all beginnings of a built forest with steps joins that begin with begun."""
    course = begun_course(forest, begun)
    going = len(begun) <= steps <= count_joins(forest)
    if going:
        fill(course, steps)
    while going:
        yield tuple(course.joined)
        going = move_on(course, len(begun))


def binomial(n, k):
    """Returns in how many ways k of n things can be chosen."""
    ways = 1
    for step in range(k):
        ways = ways * (n - step) // (step + 1)
    return ways


def count_mixes(room, parts, known):
    """Returns in how many ways the joins of some children and the joins below them can be mixed.

    room is what their parent weighs without them. parts is the ascending tuple of the pairs of the weight of a
    child and the number of joins below it. The joins below one child are taken as if their order were given.
    known keeps the results.
    """
    if not parts:
        return 1
    key = (room, parts)
    if key not in known:
        ways = 0
        for at, part in enumerate(parts):
            # Children with the same pair are alike, so the first of them stands for all.
            if at == 0 or parts[at - 1] != part:
                ways += parts.count(part) * count_last(room, parts, at, known)
        known[key] = ways
    return known[key]


def count_last(room, parts, at, known):
    """Returns in how many of the ways of count_mixes the child with the pair parts[at] is joined last."""
    weight, below = parts[at]
    others = parts[:at] + parts[at + 1:]
    if weight > room + sum([other for other, more in others]):
        return 0
    joins = len(parts) + sum([more for other, more in parts])
    # Its own join ends all, and the joins below it stand anywhere before that.
    return binomial(joins - 1, below) * count_mixes(room, others, known)


def count_orders(course, known):
    """Returns in how many orders all joins that the course has not done can be done; known as in count_mixes."""
    parts = [[] for parent in course.parents]
    ways = 1
    joins = 0
    # In the order of the weights each vertex comes after its children.
    rows = sorted([(course.full[vertex], vertex) for vertex in range(len(parts))])
    for weight, vertex in rows:
        below = len(parts[vertex]) + sum([more for other, more in parts[vertex]])
        ways *= count_mixes(course.grown[vertex], tuple(sorted(parts[vertex])), known)
        if course.parents[vertex] == vertex:
            joins += below
            ways *= binomial(joins, below)
        elif vertex not in course.joined:
            parts[course.parents[vertex]].append((weight, below))
    return ways


def count_after(course, vertex, known):
    """Returns in how many orders a course can go on after it joins vertex; known as in count_mixes."""
    course.take(vertex)
    ways = count_orders(course, known)
    course.take_back()
    return ways
