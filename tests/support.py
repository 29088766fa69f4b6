"""Values, forests and ways to find results that several tests use."""

import inspect
import unittest
from collections import Counter
from functools import cmp_to_key, lru_cache
from itertools import combinations, permutations, product
from random import Random

from linkforests.forests import renamed

MANY_KINDS = (
    None, True, False, 0, 1, -1, 24, 10 ** 39, -(10 ** 39), "", "0", "vertex\n", (), (0,), (True, None), [],
    [0, [1]], {}, {"a": [1, {"b": ()}]},
)


def nested(levels):
    """Returns a tuple in a list in a dict, and so on, this many levels deep."""
    value = 0
    for level in range(levels):
        value = ((value,), [value], {"in": value})[level % 3]
    return value


def not_vertices(n):
    """Returns values that are no vertices of a forest with n vertices."""
    return (
        n, n + 1, -1, -n, True, False, None, "", "0", "a", (), (0,), [], [0], {}, {"0": 0}, 10 ** 39, -(10 ** 39),
        nested(60),
    )


def all_tuples(n):
    """Returns all tuples of n vertices, forests or not."""
    return list(product(range(n), repeat=n))


def grounded(parents):
    """Returns the set of the vertices from which parents lead to a root."""
    known = {vertex for vertex, parent in enumerate(parents) if vertex == parent}
    while True:
        more = {vertex for vertex, parent in enumerate(parents) if parent in known}
        if more <= known:
            return known
        known |= more


def small_forests():
    """Returns all forests of 1 to 4 vertices."""
    return [parents for n in range(1, 5) for parents in all_tuples(n) if len(grounded(parents)) == n]


def random_forest(chance, n):
    """Returns a forest of n vertices whose vertices are numbered in any order."""
    names = chance.sample(range(n), n)
    parents = [0] * n
    for at, name in enumerate(names):
        parents[name] = chance.choice(names[:at + 1])
    return tuple(parents)


def up_path(n):
    """Returns the path in which the parent of each vertex is the one before it."""
    return tuple(max(vertex - 1, 0) for vertex in range(n))


def down_path(n):
    """Returns the path in which the parent of each vertex is the one after it."""
    return tuple(min(vertex + 1, n - 1) for vertex in range(n))


def large_forests():
    """Returns forests of each number of vertices from 1 to 24, paths and stars among them."""
    chance = Random(24)
    forests = []
    for n in range(1, 25):
        forests += [up_path(n), down_path(n), (n // 2,) * n, tuple(range(n))]
        forests += [random_forest(chance, n) for repeat in range(12)]
    return forests


def sample_forests():
    """Returns all small forests, and some of each greater number of vertices."""
    return small_forests() + large_forests()


class CallCase(unittest.TestCase):
    """Calls functions and checks that their arguments are as they were."""

    def call(self, function, *given, **named):
        """Returns what a call returns; of a generator, the list of what it yields."""
        before = repr((given, named))
        try:
            result = function(*given, **named)
            return list(result) if inspect.isgenerator(result) else result
        finally:
            self.assertEqual(repr((given, named)), before)

    def refused(self, error, function, *given, **named):
        """Checks that a call raises an error of this very class, and returns it."""
        with self.assertRaises(ValueError, msg=f"{function.__name__}{given}") as caught:
            self.call(function, *given, **named)
        self.assertIs(type(caught.exception), error, f"{function.__name__}{given}")
        return caught.exception

    def same(self, found, wanted, about=None):
        """Checks that two values are equal in all their parts, where True is not 1 and a list is no tuple."""
        self.assertEqual(repr(found), repr(wanted), about)


def lower_vertices(forest):
    """Returns the ascending tuple of the vertices that are no roots."""
    return tuple(vertex for vertex, parent in enumerate(forest) if vertex != parent)


def joined_all(n, joins):
    """Returns the forest after these joins, done on sets of vertices, or None if one of them is not a join."""
    trees = {vertex: {vertex} for vertex in range(n)}
    parents = list(range(n))
    for child, parent in joins:
        if child == parent or child not in trees or parent not in trees or len(trees[child]) > len(trees[parent]):
            return None
        trees[parent] |= trees.pop(child)
        parents[child] = parent
    return tuple(parents)


def is_row(forest, value):
    """Returns whether value is a tuple of different vertices that are no roots, True and False not counted."""
    if type(value) is not tuple or {type(item) for item in value} - {int}:
        return False
    return len(set(value)) == len(value) and set(value) <= set(lower_vertices(forest))


def is_true_history(forest, value):
    """Returns whether value is a history, found by doing its joins."""
    return is_row(forest, value) and joined_all(len(forest), [(vertex, forest[vertex]) for vertex in value]) == forest


def is_true_beginning(forest, value):
    """Returns whether value is a beginning of a built forest, found by doing its joins."""
    if not is_row(forest, value):
        return False
    if joined_all(len(forest), [(vertex, forest[vertex]) for vertex in value]) is None:
        return False
    late = [child for child in lower_vertices(forest) if child not in value and forest[child] in value]
    return not late


@lru_cache(maxsize=None)
def listed_histories(forest):
    """Returns the ascending tuple of all histories, found by trying all orders."""
    return tuple(order for order in permutations(lower_vertices(forest)) if is_true_history(forest, order))


@lru_cache(maxsize=None)
def listed_beginnings(forest):
    """Returns the set of all beginnings, found by trying all orders."""
    return frozenset(history[:size] for history in listed_histories(forest) for size in range(len(history) + 1))


def all_forests(n):
    """Returns all forests of n vertices."""
    return [parents for parents in all_tuples(n) if len(grounded(parents)) == n]


@lru_cache(maxsize=None)
def arising_forests(n):
    """Returns the set of all forests that arise from n single vertices, found by doing all joins."""
    found = {tuple(range(n))}
    front = list(found)
    while front:
        forest = front.pop()
        for child, parent in true_joins(forest):
            after = forest[:child] + (parent,) + forest[child + 1:]
            if after not in found:
                found.add(after)
                front.append(after)
    return frozenset(found)


def tops_of(forest):
    """Returns for each vertex the root to which its parents lead."""
    tops = list(range(len(forest)))
    for step in forest:
        tops = [forest[top] for top in tops]
    return tops


def true_joins(forest):
    """Returns the ascending list of all joins in the forest, found by counting the vertices below each root."""
    sizes = Counter(tops_of(forest))
    return [pair for pair in permutations(sorted(sizes), 2) if sizes[pair[0]] <= sizes[pair[1]]]


def shape_of(forest):
    """Returns a value that two forests have in common exactly if they differ only in their names."""
    def below(vertex):
        return tuple(sorted(below(child) for child in lower_vertices(forest) if forest[child] == vertex))
    return tuple(sorted(below(vertex) for vertex, parent in enumerate(forest) if vertex == parent))


@lru_cache(maxsize=None)
def shaped_forests(n):
    """Returns one forest for each shape of n vertices, built or not, with its vertices numbered in any order."""
    chance = Random(n)
    found = {}
    for parents in product(*[range(vertex + 1) for vertex in range(n)]):
        found.setdefault(shape_of(parents), parents)
    return tuple(renamed(parents, tuple(chance.sample(range(n), n))) for parents in found.values())


def shaped_built(n):
    """Returns the built forests among those of shaped_forests."""
    return [forest for forest in shaped_forests(n) if listed_histories(forest)]


def random_built(chance, n, tops):
    """Returns a built forest of n vertices with this many roots."""
    sizes = {vertex: 1 for vertex in range(n)}
    parents = list(range(n))
    while len(sizes) > tops:
        child, parent = sorted(chance.sample(sorted(sizes), 2), key=lambda vertex: sizes[vertex])
        parents[child] = parent
        sizes[parent] += sizes.pop(child)
    return tuple(parents)


def binomial_tree(n):
    """Returns the tree in which each join is between trees as nearly of the same weight as possible."""
    return tuple(vertex & (vertex - 1) if vertex else 0 for vertex in range(n))


@lru_cache(maxsize=None)
def built_forests():
    """Returns built forests of each number of vertices from 1 to 24, stars and binomial trees among them."""
    chance = Random(42)
    forests = []
    for n in range(1, 25):
        forests += [(n // 2,) * n, tuple(range(n)), binomial_tree(n)]
        forests += [random_built(chance, n, tops) for tops in (1, 1, 1, (n + 1) // 2, (n + 3) // 4)]
    return tuple(forests)


def unbuilt_forests():
    """Returns forests that are not built, of 3 to 24 vertices."""
    return [forest for forest in large_forests() if true_heavy(forest)]


def true_heavy(forest):
    """Returns the ascending tuple of the heavy children, found by counting paths."""
    sizes = Counter()
    for vertex in range(len(forest)):
        sizes.update({vertex, *path_above(forest, vertex)})
    heavy = []
    for child in lower_vertices(forest):
        siblings = [other for other in lower_vertices(forest) if forest[other] == forest[child]]
        if sizes[child] > 1 + sum(sizes[other] for other in siblings if sizes[other] < sizes[child]):
            heavy.append(child)
    return tuple(heavy)


def path_above(forest, vertex):
    """Returns the list of the vertices above vertex."""
    above = []
    while forest[vertex] != vertex:
        vertex = forest[vertex]
        above.append(vertex)
    return above


def random_beginning(chance, forest, steps):
    """Returns a beginning of a built forest with this many joins, or all if there are fewer, drawn one by one."""
    begun = ()
    while len(begun) < min(steps, len(lower_vertices(forest))):
        begun = chance.choice(after_each(forest, begun))
    return begun


def after_each(forest, begun):
    """Returns the ascending list of the beginnings that have one vertex more than begun."""
    longer = [begun + (vertex,) for vertex in lower_vertices(forest)]
    return [row for row in longer if is_true_beginning(forest, row)]


def random_history(chance, forest):
    """Returns a history of a built forest, drawn vertex by vertex."""
    return random_beginning(chance, forest, len(forest))


def with_item(row, index, item):
    """Returns the tuple with another item at this index."""
    return row[:index] + (item,) + row[index + 1:]


def other_items(item):
    """Returns values that an item can be replaced by, among them one that is equal to it but of another kind."""
    equal = [bool(item)] if item in (0, 1) and type(item) is int else []
    return equal + [None, "0", -1, 24, 10 ** 39, (item,), [item], {"in": item}, True, False, 0]


def variants(value):
    """Returns values that differ from a tuple in one part, or in the order or the number of its parts."""
    size = len(value)
    found = [list(value), {"in": value}, (value,), [value], str(value), None, value + value, value[::-1]]
    for index in range(size):
        found += [with_item(value, index, item) for item in other_items(value[index])]
        found += [value[:index] + value[index + 1:], value[:index] + value[index:index + 1] + value[index:]]
        if type(value[index]) is tuple:
            found += [with_item(value, index, item) for item in variants(value[index])]
    for low, high in combinations(range(size), 2):
        found.append(with_item(with_item(value, low, value[high]), high, value[low]))
    return [other for other in found if repr(other) != repr(value)]


def true_weights(forest):
    """Returns the list of the weights of all vertices, found by counting paths."""
    sizes = [0] * len(forest)
    for vertex in range(len(forest)):
        for above in [vertex, *path_above(forest, vertex)]:
            sizes[above] += 1
    return sizes


def true_left(one, other):
    """Returns the ascending tuple of the vertices that are roots of one and not of other."""
    return tuple(vertex for vertex in range(len(one)) if one[vertex] == vertex != other[vertex])


def true_obstacles(one, other):
    """Returns the ascending tuple of all obstacles, vertex by vertex as they are defined."""
    before, after, left = true_weights(one), true_weights(other), true_left(one, other)
    found = [("apart", vertex) for vertex in lower_vertices(one) if one[vertex] != other[vertex]]
    for vertex in left:
        parent = other[vertex]
        lighter = [after[v] for v in left if other[v] == parent and after[v] < after[vertex]]
        if one[parent] != parent:
            found.append(("closed", vertex))
        elif after[vertex] > before[parent] + sum(lighter):
            found.append(("heavy", vertex))
    return tuple(sorted(found))


def with_join(forest, vertex, other):
    """Returns the forest after vertex is joined to its parent in other, or None if this is not a join."""
    if (vertex, other[vertex]) not in true_joins(forest):
        return None
    return with_item(forest, vertex, other[vertex])


def is_true_growth(one, other, value):
    """Returns whether value is a growth from one to other, found by doing its joins."""
    if type(value) is not tuple or {type(item) for item in value} - {int}:
        return False
    if sorted(value) != list(true_left(one, other)):
        return False
    for vertex in value:
        one = with_join(one, vertex, other)
        if one is None:
            return False
    return one == other


@lru_cache(maxsize=None)
def listed_growths(one, other):
    """Returns the ascending tuple of all growths from one to other, found by trying all orders of joins."""
    left = true_left(one, other)
    if not left:
        return ((),) if one == other else ()
    rows = []
    for vertex in left:
        after = with_join(one, vertex, other)
        if after is not None:
            rows += [(vertex,) + row for row in listed_growths(after, other)]
    return tuple(rows)


def grown(chance, forest, joins):
    """Returns a forest that arises from this one by so many drawn joins, or by fewer if one tree is left."""
    for step in range(joins):
        choices = true_joins(forest)
        if choices:
            child, parent = chance.choice(choices)
            forest = with_item(forest, child, parent)
    return forest


def with_other_parent(chance, forest):
    """Returns a forest in which one vertex has another parent, or the forest itself if it has one vertex."""
    while len(forest) > 1:
        vertex, parent = chance.randrange(len(forest)), chance.randrange(len(forest))
        other = with_item(forest, vertex, parent)
        if other != forest and len(grounded(other)) == len(other):
            return other
    return forest


@lru_cache(maxsize=None)
def growing_pairs():
    """Returns pairs of forests of 1 to 24 vertices, built or not, of which the second one grows from the first one."""
    chance = Random(56)
    pairs = []
    for n in range(1, 25):
        pairs += [(tuple(range(n)), forest) for forest in ((n // 2,) * n, binomial_tree(n), random_built(chance, n, 1))]
        for repeat in range(6):
            few = chance.randrange(n)
            start = random_forest(chance, n) if repeat < 3 else grown(chance, tuple(range(n)), few)
            start = tuple(p if chance.random() < 0.6 else v for v, p in enumerate(start)) if repeat < 2 else start
            pairs.append((start, grown(chance, start, chance.randrange(n))))
    return tuple(pairs)


@lru_cache(maxsize=None)
def any_pairs():
    """Returns the growing pairs, the same with one parent changed, and pairs of any two forests."""
    chance = Random(57)
    pairs = list(growing_pairs())
    for one, other in growing_pairs():
        pairs += [(with_other_parent(chance, one), other), (one, with_other_parent(chance, other)), (other, one)]
    for n in range(1, 25):
        pairs += [(random_forest(chance, n), random_forest(chance, n)) for repeat in range(3)]
        pairs.append((tuple(range(n)), random_forest(chance, n)))
    return tuple(pairs)


def nest_size(shape):
    """Returns the weight of a shape."""
    return 1 + sum(nest_size(item) for item in shape)


def compare_shapes(one, other):
    """Returns -1, 0 or 1 as one comes before, is, or comes after other in shape order."""
    if nest_size(one) != nest_size(other):
        return -1 if nest_size(one) < nest_size(other) else 1
    for low, high in zip(one, other):
        if low != high:
            return compare_shapes(low, high)
    return 0


def in_shape_order(shapes):
    """Returns the tuple of these shapes in shape order."""
    return tuple(sorted(shapes, key=cmp_to_key(compare_shapes)))


def true_shape(forest, vertex):
    """Returns the shape of the tree of vertex."""
    return in_shape_order(true_shape(forest, v) for v, parent in enumerate(forest) if parent == vertex != v)


@lru_cache(maxsize=None)
def joined_shapes(n):
    """Returns the built shapes of weight n in shape order, found by joining a lighter tree below a heavier one."""
    found = {()} if n == 1 else set()
    for low in range(1, n // 2 + 1):
        for child in joined_shapes(low):
            for top in joined_shapes(n - low):
                found.add(in_shape_order(top + (child,)))
    return in_shape_order(found)


@lru_cache(maxsize=None)
def all_shapes(n):
    """Returns all shapes of weight n, built or not, in shape order."""
    rows = {0: {()}}
    for size in range(1, n):
        rows[size] = {in_shape_order(row + (item,)) for low in range(1, size + 1) for item in all_shapes(low)
                      for row in rows[size - low]}
    return in_shape_order(rows[n - 1])


def is_true_vertex(n, value):
    return type(value) is int and 0 <= value < n


def true_action(forest, action):
    """Returns the forest after an action and the joins that it makes, or an error's name and its argument, if any."""
    if action == ("grow",):
        return (forest + (len(forest),), ()) if len(forest) < 24 else ("TooMany", 24)
    for value in action[1:]:
        if not is_true_vertex(len(forest), value):
            return ("NoVertex", value)
    tops = tops_of(forest)
    one, other = tops[action[1]], tops[action[2]]
    if one == other:
        return ("SameTree",)
    child, parent = (one, other) if tops.count(one) < tops.count(other) else (other, one)
    return (with_item(forest, child, parent), ((child, parent),))


def replayed(first, actions):
    """Returns the list of the forests from the first one on, after each action, and the tuple of the joins made."""
    states, joins = [first], ()
    for action in actions:
        forest, made = true_action(states[-1], action)
        states.append(forest)
        joins += made
    return states, joins


class JoinerCase(CallCase):
    """Compares joiners with what arises if the actions in effect are done from the first forest on."""

    def check_joiner(self, joiner, first, actions, bound):
        """Checks all queries of a joiner."""
        states, joins = replayed(first, actions)
        self.same(joiner.forest(), states[-1])
        self.same([joiner.forest(version=version) for version in range(len(states))], states)
        self.same((joiner.joins(), joiner.actions()), (joins, tuple(actions)))
        self.same((joiner.bound, len(joiner)), (bound, len(actions)))
        tops = tops_of(states[-1])
        self.same(joiner.trees, len(set(tops)))
        words = f"{len(tops)} vertices, {len(set(tops))} trees, {len(actions)} actions"
        steps = f", {joiner.steps} steps" if type(joiner).__name__ == "CountedJoiner" else ""
        self.same(str(joiner), words + steps)
        for vertex, top in enumerate(tops):
            self.same((joiner.find(vertex), joiner.weight(vertex)), (top, tops.count(top)))
            self.same(list(joiner.walk(vertex)), [vertex, *path_above(states[-1], vertex)])

    def check_error(self, wanted, function, *given, **named):
        """Checks that a call raises the error with this name, with the very argument if there is one."""
        with self.assertRaises(ValueError) as caught:
            self.call(function, *given, **named)
        kept = list(vars(caught.exception).values())
        self.assertEqual((type(caught.exception).__name__, len(kept)), (wanted[0], len(wanted) - 1))
        if kept:
            self.assertIs(kept[0], wanted[1])
            self.same(kept[0], wanted[1])


def drawn_action(chance, n):
    """Returns an action on a joiner with n vertices, mostly a join of two of them."""
    if chance.random() < 0.15:
        return ("grow",)
    return ("join", chance.randrange(n), chance.randrange(n))
