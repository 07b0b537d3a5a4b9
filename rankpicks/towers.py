"""Towers: simple trees of any size that are the same all over at each level."""

from rankpicks.checks import are_names, is_whole
from rankpicks.errors import InvalidLevels, InvalidList
from rankpicks.trees import Group, Leaf


class Tower:
    """A simple tree whose groups all have the same number of parts and the same rank at each level."""

    def __init__(self, levels):
        if not _are_levels(levels):
            raise InvalidLevels(levels)
        self._levels = list(levels)

    @property
    def levels(self):
        """The tuples (count, rank), from the groups of leaves up."""
        return list(self._levels)

    @property
    def size(self):
        """The number of leaves."""
        return _product([count for count, rank in self._levels])

    @property
    def least(self):
        """The least rank that the end can have among all worths."""
        return _product([rank for count, rank in self._levels])

    @property
    def greatest(self):
        """The greatest rank that the end can have among all worths."""
        # From the other side, the ranks of each level are counted from there, too.
        return self.size + 1 - _product([count + 1 - rank for count, rank in self._levels])

    def __eq__(self, other):
        return isinstance(other, Tower) and self._levels == other._levels

    def __mul__(self, other):
        if not isinstance(other, Tower):
            return NotImplemented
        return Tower(self._levels + other._levels)

    def mirror(self):
        """Return the tower whose ranks are counted from the other side."""
        return Tower([(count, count + 1 - rank) for count, rank in self._levels])

    def build(self, names):
        """Return the tree with these names, as many as the tower has leaves, in order."""
        if not are_names(names) or len(names) != self.size:
            raise InvalidList(names)
        trees = [Leaf(name) for name in names]
        for count, rank in self._levels:
            trees = [Group([rank], trees[at:at + count]) for at in range(0, len(trees), count)]
        return trees[0]


def _are_levels(value):
    if not isinstance(value, list) or len(value) == 0:
        return False
    return all([_is_level(item) for item in value])


def _is_level(value):
    if not isinstance(value, tuple) or len(value) != 2:
        return False
    count, rank = value
    return is_whole(count) and is_whole(rank) and 1 <= rank <= count


def _product(numbers):
    total = 1
    for number in numbers:
        total = total * number
    return total
