"""Shapes: trees without names, how many there are, and their order."""

from linkforests.bounds import LISTED, MAX_VERTICES, SHAPE_VERTICES
from linkforests.courses import binomial
from linkforests.depths import check_count
from linkforests.errors import BadShape, NoIndex, TooMany
from linkforests.forests import children_of, is_plain_int, roots


def nest_weight(value, most):
    """Returns the number of tuples of which value is made, or None if it is made of anything else or of more."""
    many = 0
    waiting = [value]
    while waiting:
        part = waiting.pop()
        if not isinstance(part, tuple) or many + len(waiting) + len(part) >= most:
            return None
        many += 1
        waiting += part
    return many


def place(shape):
    """Returns a value that comes before that of another shape exactly if the shape does in shape order."""
    places = [place(item) for item in shape]
    return (1 + sum([weight for weight, rest in places]), tuple(places))


def is_ordered(shape):
    """Returns whether the items of a nest of tuples, and of all its parts, are in shape order."""
    places = [place(item) for item in shape]
    return places == sorted(places) and all([is_ordered(item) for item in shape])


def is_small_shape(value, most):
    """Returns whether value is a shape with a weight of at most most."""
    return nest_weight(value, most) is not None and is_ordered(value)


def is_shape(value):
    """Returns whether value is a shape with a weight of at most SHAPE_VERTICES."""
    return is_small_shape(value, SHAPE_VERTICES)


def check_shape(value):
    """Raises BadShape if value is not a shape with a weight of at most SHAPE_VERTICES."""
    if not is_shape(value):
        raise BadShape()


def shape_weight(value):
    """Returns the weight of a shape."""
    check_shape(value)
    return nest_weight(value, SHAPE_VERTICES)


def shape_of(forest, vertex):
    """Returns the shape of the tree of vertex."""
    return tuple(sorted([shape_of(forest, child) for child in children_of(forest, vertex)], key=place))


def shapes_of(forest):
    """Returns the tuple of the shapes of all trees of the forest in shape order."""
    return tuple(sorted([shape_of(forest, root) for root in roots(forest)], key=place))


def has_no_heavy(shape):
    """Returns whether a shape is built."""
    sizes = [nest_weight(item, SHAPE_VERTICES) for item in shape]
    for size in sizes:
        if size > 1 + sum([other for other in sizes if other < size]):
            return False
    return all([has_no_heavy(item) for item in shape])


def is_built_shape(value):
    """Returns whether value is a built shape with a weight of at most SHAPE_VERTICES."""
    return is_shape(value) and has_no_heavy(value)


def forest_of(value):
    """Returns the forest that is one tree of this shape, with the root 0."""
    if not is_small_shape(value, MAX_VERTICES):
        raise BadShape()
    parents = []
    number_tree(value, 0, parents)
    return tuple(parents)


def number_tree(shape, parent, parents):
    """Adds the parents of the vertices of a tree of this shape to parents; its root gets the next number."""
    top = len(parents)
    parents.append(parent)
    for item in shape:
        number_tree(item, top, parents)


def factorial(n):
    """Returns the number of orders of n things."""
    ways = 1
    for step in range(n):
        ways *= step + 1
    return ways


def count_exchanges(shape):
    """Returns in how many ways equal items of a shape can be exchanged with one another, at any depth."""
    ways = 1
    for at, item in enumerate(shape):
        # Each item can stand in the place of any of the equal ones up to it.
        ways *= shape[:at + 1].count(item) * count_exchanges(item)
    return ways


def count_labellings(value):
    """Returns the number of forests that are one tree of this shape."""
    check_shape(value)
    return factorial(nest_weight(value, SHAPE_VERTICES)) // count_exchanges(value)


def unnamed_ways(total, many, weight, kinds):
    """Returns in how many ways so many of these kinds of trees can be chosen with repetition."""
    return binomial(kinds + many - 1, many)


def named_ways(total, many, weight, kinds):
    """Returns in how many ways so many trees of a weight can be put beside total vertices, with names for all.

    kinds is the number of trees of this weight with names for their vertices.
    """
    ways = 1
    for step in range(1, many + 1):
        ways *= binomial(total + step * weight, weight) * kinds
    return ways // factorial(many)


def spread(sums, weight, kinds, ways, bounded):
    """Returns the sums after any number of trees of this weight, of which there are so many kinds, are added.

    sums[t] is the number of choices of lighter trees with the weight t together, and ways is unnamed_ways or
    named_ways. If bounded is True, no tree may be heavier than 1 plus the lighter ones.
    """
    longer = list(sums)
    for total, before in enumerate(sums):
        if before and (weight <= 1 + total or not bounded):
            for many in range(1, (len(sums) - 1 - total) // weight + 1):
                longer[total + many * weight] += before * ways(total, many, weight, kinds)
    return longer


def tree_counts(n, ways):
    """Returns the list of the numbers of built trees with 0 to n vertices; ways as in spread."""
    counts = [0]
    sums = [1] + [0] * (n - 1)
    for weight in range(1, n + 1):
        # The root is a tree of one vertex that is put beside what is below it.
        kinds = sums[weight - 1] * ways(weight - 1, 1, 1, 1)
        counts.append(kinds)
        sums = spread(sums, weight, kinds, ways, True)
    return counts


def count_forests(n, ways):
    """Returns the number of built forests with n vertices; ways as in spread."""
    sums = [1] + [0] * n
    counts = tree_counts(n, ways)
    for weight in range(1, n + 1):
        sums = spread(sums, weight, counts[weight], ways, False)
    return sums[n]


def count_shapes(n):
    """Returns the number of built shapes of weight n."""
    check_count(n, SHAPE_VERTICES)
    return tree_counts(n, unnamed_ways)[n]


def count_forest_shapes(n):
    """Returns the number of different tuples of the shapes of all trees of built forests with n vertices."""
    check_count(n, SHAPE_VERTICES)
    return count_forests(n, unnamed_ways)


def count_built_trees(n):
    """Returns the number of built forests with n vertices that are one tree."""
    check_count(n, MAX_VERTICES)
    return tree_counts(n, named_ways)[n]


def count_built_forests(n):
    """Returns the number of built forests with n vertices."""
    check_count(n, MAX_VERTICES)
    return count_forests(n, named_ways)


class Numbering:
    """The numbers of the built shapes of all weights up to n, in shape order.

    An item of a shape stands for a pair of its weight and its number among the built shapes of this weight.
    """

    def __init__(self, n):
        self.counts = tree_counts(n, unnamed_ways)
        self.ends = {}
        self.made = {}

    def ends_for(self, n):
        """Returns a dict of rows: rows[w][t] is in how many ways items from the weight w on fill t up to n - 1."""
        if n not in self.ends:
            row = [0] * (n - 1) + [1]
            rows = {n: row}
            for weight in range(n - 1, 0, -1):
                row = [row[total] + self.count_next(row, total, weight, 0) for total in range(n)]
                rows[weight] = row
            self.ends[n] = rows
        return self.ends[n]

    def count_next(self, row, total, weight, low):
        """Returns in how many ways items can follow a total if the next one has this weight and a number from low on.

        row is the row of the heavier items.
        """
        if weight > total + 1:
            return 0
        ways = 0
        chosen = 1
        for many in range(1, (len(row) - 1 - total) // weight + 1):
            # In so many ways can so many items be chosen, as in unnamed_ways.
            chosen = chosen * (self.counts[weight] - low + many - 1) // many
            ways += chosen * row[total + many * weight]
        return ways

    def last_number(self, row, total, weight, low, least):
        """Returns the greatest number from low on from which on there are at least so many ways of count_next."""
        high = self.counts[weight] - 1
        while low < high:
            middle = (low + high + 1) // 2
            if self.count_next(row, total, weight, middle) >= least:
                low = middle
            else:
                high = middle - 1
        return low

    def next_item(self, rows, total, last, index):
        """Returns the item after last in the sequence of items with this index, and the index among those with it."""
        weight, low = last
        ways = self.count_next(rows[weight + 1], total, weight, low)
        while index >= ways:
            index -= ways
            weight += 1
            low = 0
            ways = self.count_next(rows[weight + 1], total, weight, low)
        number = self.last_number(rows[weight + 1], total, weight, low, ways - index)
        skipped = ways - self.count_next(rows[weight + 1], total, weight, number)
        return (weight, number), index - skipped

    def shape_with(self, n, number):
        """Returns the built shape of weight n with this number."""
        rows = self.ends_for(n)
        items = []
        total = 0
        item = (1, 0)
        rest = number
        while total < n - 1:
            item, rest = self.next_item(rows, total, item, rest)
            items.append(self.item_shape(item))
            total += item[0]
        return tuple(items)

    def item_shape(self, item):
        """Returns the shape of an item; it is made once only, since few items make many shapes."""
        if item not in self.made:
            self.made[item] = self.shape_with(item[0], item[1])
        return self.made[item]

    def number_of(self, shape):
        """Returns the number of a built shape."""
        rows = self.ends_for(nest_weight(shape, SHAPE_VERTICES))
        number = 0
        total = 0
        weight = 1
        low = 0
        for item in shape:
            goal = nest_weight(item, SHAPE_VERTICES)
            while weight < goal:
                number += self.count_next(rows[weight + 1], total, weight, low)
                weight += 1
                low = 0
            number += self.count_next(rows[weight + 1], total, weight, low)
            low = self.number_of(item)
            number -= self.count_next(rows[weight + 1], total, weight, low)
            total += weight
        return number


def shapes_with(n):
    """Returns the tuple of all built shapes of weight n in shape order, if there are at most LISTED."""
    if count_shapes(n) > LISTED:
        raise TooMany(LISTED)
    return tuple(walk_shapes(n))


def shape_at(n, index):
    """Returns the built shape of weight n with this index in shape order."""
    many = count_shapes(n)
    if not is_plain_int(index) or not 0 <= index < many:
        raise NoIndex(index)
    return Numbering(n).shape_with(n, index)


def shape_index(value):
    """Returns the index of a built shape among those of its weight in shape order."""
    if not is_built_shape(value):
        raise BadShape()
    return Numbering(nest_weight(value, SHAPE_VERTICES)).number_of(value)


def walk_shapes(n, *, skip=0):
    """Yields the built shapes of weight n in shape order, without the first ones, as many as skip says."""
    numbering = Numbering(n)
    many = numbering.counts[n]
    for number in range(skip, many):
        yield numbering.shape_with(n, number)


def root_over(*shapes):
    """Returns the shape of a root whose children have these shapes."""
    for shape in shapes:
        check_shape(shape)
    if nest_weight(shapes, SHAPE_VERTICES) is None:
        raise BadShape()
    return tuple(sorted(shapes, key=place))
