"""Trees: leaves, and groups that pass up some ranks of what they take in."""

from rankpicks.checks import are_name_pairs, are_names, is_name, is_whole
from rankpicks.errors import InvalidList, InvalidName, InvalidNumber, InvalidTree, Unknown


class Tree:
    """What leaves and groups have in common; there are no other trees."""

    def __init__(self):
        raise TypeError("a tree is a leaf or a group")


class Leaf(Tree):
    """A tree that stands for one worth, which is its one end."""

    def __init__(self, name):
        if not is_name(name):
            raise InvalidName(name)
        self._name = name

    @property
    def name(self):
        """The name of the leaf."""
        return self._name

    @property
    def width(self):
        """The number of ends."""
        return 1

    def __len__(self):
        return 1

    def __contains__(self, name):
        return name == self._name

    def __eq__(self, other):
        return isinstance(other, Leaf) and self._name == other._name

    def names(self):
        """Return the list of the one name."""
        return [self._name]

    def passes(self, names):
        """Return how many ends are low if the leaves with these names are."""
        if not _are_leaves(self, names):
            raise InvalidList(names)
        return self._low_ends(names)

    def nodes(self):
        """Return the list of the leaf itself."""
        return [self]

    def mirror(self):
        """Return this leaf: it has no ranks to be counted from the other side."""
        return self

    def renamed(self, pairs):
        """Return the leaf with the new name of the one tuple (old, new), if there is one."""
        if not _is_renaming(self, pairs):
            raise InvalidList(pairs)
        return self._with_names(dict(pairs))

    def put(self, name, other):
        """Return the tree that is put in the place of this leaf."""
        _check_put(self, name, other)
        return self._with_tree(name, other)

    def _low_ends(self, low):
        return 1 if self._name in low else 0

    def _with_names(self, table):
        return Leaf(table.get(self._name, self._name))

    def _with_tree(self, name, other):
        return other if self._name == name else self


class Group(Tree):
    """A tree that takes in the ends of its parts and passes those at some ranks up."""

    def __init__(self, ranks, parts):
        if not _are_parts(parts) or not _are_ranks(ranks, _intake_of(parts)):
            raise InvalidTree((ranks, parts))
        self._ranks = list(ranks)
        self._parts = list(parts)
        self._intake = _intake_of(parts)
        self._names = _names_of(parts)

    @property
    def ranks(self):
        """The ranks that are passed up."""
        return list(self._ranks)

    @property
    def parts(self):
        """The parts, in order."""
        return list(self._parts)

    @property
    def intake(self):
        """The number of all ends of the parts."""
        return self._intake

    @property
    def width(self):
        """The number of ends."""
        return len(self._ranks)

    def __len__(self):
        return len(self._names)

    def __contains__(self, name):
        return name in self._names

    def __eq__(self, other):
        return isinstance(other, Group) and self._ranks == other._ranks and self._parts == other._parts

    def __getitem__(self, k):
        if not is_whole(k) or not 0 <= k < len(self._parts):
            raise InvalidNumber(k)
        return self._parts[k]

    # Python would otherwise go over a group by its items.
    def __iter__(self):
        raise TypeError("a group cannot be iterated over: take its parts or its names")

    def names(self):
        """Return the list of the names of the leaves, as they stand."""
        return list(self._names)

    def passes(self, names):
        """Return how many ends are low if the leaves with these names are."""
        if not _are_leaves(self, names):
            raise InvalidList(names)
        return self._low_ends(names)

    def nodes(self):
        """Return the list of the group itself and of all trees within it."""
        return [self] + [node for part in self._parts for node in part.nodes()]

    def mirror(self):
        """Return the tree whose ranks are counted from the other side."""
        ranks = sorted([self._intake + 1 - rank for rank in self._ranks])
        return Group(ranks, [part.mirror() for part in self._parts])

    def renamed(self, pairs):
        """Return the tree with new names, given as a list of tuples (old, new)."""
        if not _is_renaming(self, pairs):
            raise InvalidList(pairs)
        return self._with_names(dict(pairs))

    def put(self, name, other):
        """Return the tree in which another tree stands in the place of a leaf."""
        _check_put(self, name, other)
        return self._with_tree(name, other)

    def _low_ends(self, low):
        taken = sum([part._low_ends(low) for part in self._parts])
        return len([rank for rank in self._ranks if rank <= taken])

    def _with_names(self, table):
        return Group(self._ranks, [part._with_names(table) for part in self._parts])

    def _with_tree(self, name, other):
        return Group(self._ranks, [part._with_tree(name, other) for part in self._parts])


def is_tree(value):
    """Return whether a value is a tree."""
    return isinstance(value, (Leaf, Group))


def is_end(tree, j):
    """Return whether a value is the number of an end of a tree."""
    return is_whole(j) and 1 <= j <= tree.width


def check_end(tree, j):
    """Raise an error unless the values are a tree and the number of one of its ends."""
    if not is_tree(tree):
        raise InvalidTree(tree)
    if not is_end(tree, j):
        raise InvalidNumber(j)


def check_leaf(tree, name):
    """Raise an error unless the value is the name of a leaf of the tree."""
    if not is_name(name):
        raise InvalidName(name)
    if name not in tree:
        raise Unknown(name)


def low_ends(tree, names):
    """Return how many ends are low if the leaves with these names are; other names do not matter."""
    return tree._low_ends(names)


def _are_parts(value):
    if not isinstance(value, list) or len(value) == 0:
        return False
    return all([is_tree(part) for part in value]) and are_names(_names_of(value))


def _are_ranks(value, intake):
    if not isinstance(value, list) or len(value) == 0 or not all([is_whole(rank) for rank in value]):
        return False
    ascending = all([low < high for low, high in zip(value, value[1:])])
    return ascending and 1 <= value[0] and value[-1] <= intake


def _intake_of(parts):
    return sum([part.width for part in parts])


def _names_of(parts):
    return [name for part in parts for name in part.names()]


def _are_leaves(tree, names):
    return are_names(names) and all([name in tree for name in names])


def _is_renaming(tree, pairs):
    if not are_name_pairs(pairs) or not all([old in tree for old, new in pairs]):
        return False
    # The names are compared only when all are in place, so that two leaves may exchange theirs.
    table = dict(pairs)
    return are_names([table.get(name, name) for name in tree.names()])


def _check_put(tree, name, other):
    check_leaf(tree, name)
    if not is_tree(other) or other.width != 1 or _meets(tree, name, other):
        raise InvalidTree(other)


def _meets(tree, name, other):
    """Return whether the other tree has a name of the tree, apart from the one that it replaces."""
    return any([new in tree and new != name for new in other.names()])
