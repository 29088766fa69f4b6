"""Joiners: forests that grow join by join, with undo."""

from linkforests.bounds import BATCH, MAX_VERTICES
from linkforests.builds import check_built, with_parent
from linkforests.depths import check_count
from linkforests.errors import (
    BadBatch, BadCount, Busy, LinkError, NothingToUndo, NoVersion, Rejected, SameTree, TooMany, TooManyActions,
)
from linkforests.forests import is_plain_int, path_of, single, weights


def top_of(forest, vertex):
    """Returns the root of the tree that contains vertex."""
    return path_of(forest, vertex)[-1]


def is_action(value):
    """Returns whether value has the form of an action."""
    if not isinstance(value, tuple) or len(value) not in (1, 3):
        return False
    return value[0] == ("grow" if len(value) == 1 else "join")


def is_batch(value):
    """Returns whether value is a list or tuple of actions that is not too long."""
    if not isinstance(value, (list, tuple)) or len(value) > BATCH:
        return False
    return all([is_action(item) for item in value])


class Joiner:
    """A forest that grows join by join, with the actions in effect and all states since the first one.

    The states are never changed, only replaced, so that one assignment brings an earlier state back.
    """

    LIMIT = 60

    def __init__(self, n, *, bound=60):
        check_count(n, MAX_VERTICES)
        self.most = bound
        self.busy = False
        self.restart(single(n))

    def restart(self, forest):
        """Makes forest the present one, without actions."""
        self.parents = forest
        self.past = (forest,)
        self.rows = ()

    @classmethod
    def of(cls, forest):
        """Returns a joiner with this forest, which must be built."""
        check_built(forest)
        joiner = cls(len(forest))
        joiner.restart(forest)
        return joiner

    @property
    def bound(self):
        """How many actions can be in effect."""
        return self.most

    def set_bound(self, value):
        """Changes the bound and returns it."""
        self.check_free()
        if not is_plain_int(value) or not len(self.rows) <= value <= self.LIMIT:
            raise BadCount()
        self.most = value
        return value

    def check_free(self):
        """Raises Busy while on_step of a batch runs."""
        if self.busy:
            raise Busy()

    def check_action(self):
        """Raises Busy or TooManyActions if no action can be done."""
        self.check_free()
        if len(self.rows) >= self.most:
            raise TooManyActions()

    def done(self, forest, action, made):
        """Makes forest the present one, to which an action led by the joins made; returns the version."""
        self.parents = forest
        self.past += (forest,)
        self.rows += ((action, made),)
        return len(self.rows)

    def join(self, one, other):
        """Joins the trees that contain one and other, the lighter one below the heavier one."""
        self.check_action()
        tops = (top_of(self.parents, one), top_of(self.parents, other))
        if tops[0] == tops[1]:
            raise SameTree()
        loads = weights(self.parents)
        parent, child = tops if loads[tops[1]] <= loads[tops[0]] else tops[::-1]
        return self.done(with_parent(self.parents, child, parent), ("join", one, other), ((child, parent),))

    def grow(self):
        """Adds a vertex, a tree by itself."""
        self.check_action()
        if len(self.parents) >= MAX_VERTICES:
            raise TooMany(MAX_VERTICES)
        return self.done(self.parents + (len(self.parents),), ("grow",), ())

    def join_all(self, *vertices):
        """Joins the first vertex with each of the others; all of these joins are done, or none."""
        self.check_free()
        parents, past, rows = self.parents, self.past, self.rows
        try:
            for other in vertices[1:]:
                self.join(vertices[0], other)
        except LinkError:
            self.parents, self.past, self.rows = parents, past, rows
            raise
        return len(self.rows)

    def undo(self):
        """Reverts the last action in effect."""
        self.check_free()
        if not self.rows:
            raise NothingToUndo()
        self.past = self.past[:-1]
        self.rows = self.rows[:-1]
        self.parents = self.past[-1]
        return len(self.rows)

    def forest(self, *, version=None):
        """Returns the present forest, or the one after so many of the actions in effect."""
        if version is None:
            return self.parents
        if not is_plain_int(version) or not 0 <= version <= len(self.rows):
            raise NoVersion(version)
        return self.past[version]

    @property
    def trees(self):
        """The number of trees."""
        return len([vertex for vertex, parent in enumerate(self.parents) if parent == vertex])

    def find(self, vertex):
        """Returns the root of the tree that contains vertex."""
        return top_of(self.parents, vertex)

    def weight(self, vertex):
        """Returns the number of vertices of the tree that contains vertex."""
        return weights(self.parents)[top_of(self.parents, vertex)]

    def walk(self, vertex):
        """Yields vertex, its parent, and so on, up to the root."""
        path = path_of(self.parents, vertex)
        yield from path

    def joins(self):
        """Returns the tuple of the joins in effect."""
        return tuple([pair for action, made in self.rows for pair in made])

    def actions(self):
        """Returns the tuple of the actions in effect."""
        return tuple([action for action, made in self.rows])

    def act(self, action, index):
        """Does the action with this index in a batch; raises Rejected if it raises an error."""
        try:
            if len(action) == 1:
                self.grow()
            else:
                self.join(action[1], action[2])
        except LinkError:
            raise Rejected(index) from None

    def apply(self, batch, *, on_step=None):
        """Does all actions of a batch, or none, and calls on_step with this joiner after each of them."""
        self.check_free()
        if not is_batch(batch):
            raise BadBatch()
        actions = tuple(batch)
        parents, past, rows = self.parents, self.past, self.rows
        finished = None
        try:
            for index, action in enumerate(actions):
                self.act(action, index)
                if on_step is not None:
                    self.busy = True
                    on_step(self)
                    self.busy = False
            finished = True
        finally:
            # Whatever on_step raised, nothing of this batch stays in effect.
            self.busy = False
            if finished is None:
                self.parents, self.past, self.rows = parents, past, rows
        return len(self.rows)

    def copy(self):
        """Returns a joiner of the same class in the same state, which is not busy."""
        other = self.of(self.past[0])
        other.parents = self.parents
        other.past = self.past
        other.rows = self.rows
        other.most = self.most
        return other

    def __len__(self):
        return len(self.rows)

    def __eq__(self, other):
        return isinstance(other, Joiner) and self.parents == other.parents

    def __str__(self):
        return f"{len(self.parents)} vertices, {self.trees} trees, {len(self.rows)} actions"


class CountedJoiner(Joiner):
    """A joiner that counts the edges that find and walk go along."""

    def __init__(self, n, *, bound=60):
        Joiner.__init__(self, n, bound=bound)
        self.counted = 0

    @property
    def steps(self):
        """The number of edges that find and walk went along."""
        return self.counted

    def counted_path(self, vertex):
        """Returns the path from vertex to its root and counts its edges."""
        path = path_of(self.parents, vertex)
        self.counted += len(path) - 1
        return path

    def find(self, vertex):
        """Returns the root of the tree that contains vertex."""
        return self.counted_path(vertex)[-1]

    def walk(self, vertex):
        """Yields vertex, its parent, and so on, up to the root."""
        path = self.counted_path(vertex)
        yield from path

    def __str__(self):
        return f"{len(self.parents)} vertices, {self.trees} trees, {len(self.rows)} actions, {self.counted} steps"
