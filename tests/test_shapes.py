"""Tests of [87] to [93] and [101]: shapes, which values are shapes, and which forests have them."""

import unittest
from random import Random

from linkforests.errors import BadShape, NoVertex
from linkforests.forests import is_forest, renamed
from linkforests.shapes import (
    forest_of, is_built_shape, is_shape, root_over, shape_of, shape_weight, shapes_of,
)
from tests.support import (
    MANY_KINDS, CallCase, all_shapes, built_forests, in_shape_order, joined_shapes, nest_size, nested, not_vertices,
    random_built, random_forest, sample_forests, true_heavy, true_shape, up_path, variants, with_item,
)

STRANGE = MANY_KINDS + (
    nested(60), nested(59), ([],), ((), []), ((), None), (((), 0),), (True,), (False, ()), ("",), ({},), ((), ((), [])),
    tuple([()] * 4000), "()", (0,) * 60,
)


def path_shape(n):
    """Returns the shape of a path with n vertices."""
    shape = ()
    for step in range(n - 1):
        shape = (shape,)
    return shape


def is_true_shape(value, most=60):
    """Returns whether value is a shape with a weight of at most most."""
    if not is_nest(value) or nest_size(value) > most:
        return False
    return value == in_shape_order(value) and all(is_true_shape(item) for item in value)


def is_nest(value):
    return type(value) is tuple and all(is_nest(item) for item in value)


def is_true_built(value):
    """Returns whether value is a built shape."""
    if not is_true_shape(value):
        return False
    sizes = [nest_size(item) for item in value]
    light = all(size <= 1 + sum(other for other in sizes if other < size) for size in sizes)
    return light and all(is_true_built(item) for item in value)


def drawn_shapes():
    """Returns shapes of forests of 1 to 24 vertices, built or not, and great shapes."""
    chance = Random(87)
    shapes = [path_shape(n) for n in (1, 2, 3, 24, 25, 59, 60)] + [((),) * n for n in (1, 2, 23, 24, 58, 59)]
    for n in range(1, 25):
        for forest in (random_forest(chance, n), random_built(chance, n, 1), random_built(chance, n, 1)):
            shapes.append(true_shape(forest, [v for v, parent in enumerate(forest) if v == parent][0]))
    parts = [shape for shape in shapes if 18 < nest_size(shape) < 25]
    return shapes + [in_shape_order(chance.sample(parts, 2)) for repeat in range(8)]


class KindTest(CallCase):
    def check(self, value):
        right = is_true_shape(value)
        self.assertIs(self.call(is_shape, value), right, value)
        self.assertIs(self.call(is_built_shape, value), is_true_built(value), value)
        if right:
            self.same(self.call(shape_weight, value), nest_size(value))
        else:
            self.assertEqual(vars(self.refused(BadShape, shape_weight, value)), {})
        self.check_forest(value, right and nest_size(value) <= 24)
        return right

    def check_forest(self, value, right):
        if not right:
            self.assertEqual(vars(self.refused(BadShape, forest_of, value)), {})
        else:
            self.same(self.call(forest_of, value), numbered(value))

    def test_shapes(self):
        for shape in drawn_shapes():
            self.assertTrue(self.check(shape))

    def test_all_small_shapes(self):
        for n in range(1, 9):
            found = [shape for shape in all_shapes(n) if is_built_shape(shape)]
            self.same(found, list(joined_shapes(n)))
            for shape in all_shapes(n):
                self.assertTrue(self.check(shape))

    def test_parts_changed(self):
        found = {True: 0, False: 0}
        for shape in drawn_shapes()[::3] + list(all_shapes(6)):
            for value in variants(shape):
                found[self.check(value)] += 1
        self.assertGreater(min(found.values()), 100)

    def test_parts_in_another_order(self):
        chance = Random(88)
        for shape in drawn_shapes():
            self.check(tuple(chance.sample(shape, len(shape))))
            self.check(shape[::-1])
            self.check(((), (shape[::-1],)))
            for index, item in enumerate(shape):
                self.check(with_item(shape, index, item[::-1]))

    def test_values_of_other_kinds(self):
        for value in STRANGE:
            self.assertEqual(self.check(value), value == ())
            self.check((value,))
            self.check(((), value))

    def test_stars(self):
        for n in (24, 25, 60, 61, 62):
            self.assertEqual(self.check(((),) * (n - 1)), n <= 60)

    def test_deep_nests(self):
        for n in (24, 25, 59, 60, 61, 62, 100):
            self.assertEqual(self.check(path_shape(n)), n <= 60)
            self.assertEqual(self.check(((), path_shape(n))), n <= 58)
        self.assertFalse(self.check((path_shape(30), ())))

    def test_exactly_too_great(self):
        half = ((),) * 28
        self.assertTrue(self.check(((),) + (half, half)))
        self.assertFalse(self.check(((), ()) + (half, half)))
        self.assertFalse(self.check(((),) * 3 + (half, half)))

    def test_equal_weights_in_both_orders(self):
        low, high = ((), (), ()), ((), ((),))
        self.assertTrue(self.check((low, high)))
        self.assertFalse(self.check((high, low)))
        self.assertTrue(self.check((high, high)))


def numbered(shape):
    """Returns the forest of one tree of this shape, its vertices numbered from the root on, tree after tree."""
    parents = [0]
    for item in shape:
        start = len(parents)
        parents += [0] + [start + parent for parent in numbered(item)[1:]]
    return tuple(parents)


class ForestTest(CallCase):
    def test_sample_forests(self):
        for forest in sample_forests() + list(built_forests()):
            tops = [v for v, parent in enumerate(forest) if v == parent]
            self.same(self.call(shapes_of, forest), in_shape_order(true_shape(forest, top) for top in tops))
            for vertex in range(len(forest)):
                found = self.call(shape_of, forest, vertex)
                self.same(found, true_shape(forest, vertex))
                self.assertIs(is_shape(found), True)

    def test_built_forests_have_built_shapes(self):
        for forest in sample_forests():
            self.assertIs(all(is_built_shape(shape) for shape in shapes_of(forest)), true_heavy(forest) == ())

    def test_other_names(self):
        chance = Random(90)
        for forest in sample_forests()[::3]:
            names = tuple(chance.sample(range(len(forest)), len(forest)))
            other = renamed(forest, names)
            self.same(shapes_of(other), shapes_of(forest))
            for vertex in range(len(forest)):
                self.same(shape_of(other, names[vertex]), shape_of(forest, vertex))

    def test_forests_of_shapes(self):
        for shape in drawn_shapes():
            if nest_size(shape) <= 24:
                forest = forest_of(shape)
                self.assertIs(is_forest(forest), True)
                self.same(shapes_of(forest), (shape,))
                self.same(shape_of(forest, 0), shape)

    def test_values_that_are_no_vertices(self):
        for forest in ((0,), (0, 0, 1, 0), (0,) * 24, up_path(24)):
            for value in not_vertices(len(forest)):
                self.assertIs(self.refused(NoVertex, shape_of, forest, value).value, value)


class RootTest(CallCase):
    def check(self, *shapes):
        right = all(is_true_shape(shape) for shape in shapes) and 1 + sum(map(nest_size, shapes)) <= 60
        if right:
            found = self.call(root_over, *shapes)
            self.same(found, in_shape_order(shapes))
            self.assertIs(is_shape(found), True)
        else:
            self.assertEqual(vars(self.refused(BadShape, root_over, *shapes)), {})
        return right

    def test_none_to_five_arguments(self):
        chance = Random(101)
        shapes = drawn_shapes()
        found = {True: 0, False: 0}
        for repeat in range(300):
            found[self.check(*chance.choices(shapes, k=chance.randrange(6)))] += 1
        self.assertGreater(min(found.values()), 60)

    def test_values_that_are_no_shapes(self):
        for value in STRANGE:
            self.assertEqual(self.check(value), value == ())
            self.check(value, ())
            self.check((), ((),), value)
            self.check(value, value)
        self.assertFalse(self.check((((),), ())))

    def test_sixty_vertices(self):
        half = ((),) * 28
        self.assertTrue(self.check((), half, half))
        self.assertFalse(self.check((), (), half, half))
        self.assertTrue(self.check(*[()] * 59))
        self.assertFalse(self.check(*[()] * 60))
        self.assertTrue(self.check(path_shape(59)))
        self.assertFalse(self.check(path_shape(60)))


if __name__ == "__main__":
    unittest.main()
