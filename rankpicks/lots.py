"""Lots, which give names worths, and the ends that a tree has in a lot."""

from rankpicks.checks import are_name_pairs, are_names, is_name, is_whole
from rankpicks.errors import InvalidList, InvalidLot, InvalidName, InvalidNumber, InvalidTree, Lacking, Unknown
from rankpicks.trees import Leaf, is_end, is_tree


class Lot:
    """Worths under names."""

    def __init__(self, pairs=None):
        given = [] if pairs is None else pairs
        if not are_name_pairs(given) or not all([is_whole(worth) for name, worth in given]):
            raise InvalidLot(pairs)
        self._worths = dict(given)

    def __getitem__(self, name):
        if not is_name(name):
            raise InvalidName(name)
        if name not in self._worths:
            raise Unknown(name)
        return self._worths[name]

    def __setitem__(self, name, worth):
        if not is_name(name):
            raise InvalidName(name)
        if not is_whole(worth):
            raise InvalidNumber(worth)
        self._worths[name] = worth

    def __contains__(self, name):
        return is_name(name) and name in self._worths

    # Python would otherwise go over a lot by its items.
    def __iter__(self):
        raise TypeError("a lot cannot be iterated over: take its names or its pairs")

    def __len__(self):
        return len(self._worths)

    def __eq__(self, other):
        return isinstance(other, Lot) and self._worths == other._worths

    def drop(self, name):
        """Take a name out."""
        if not is_name(name):
            raise InvalidName(name)
        if name not in self._worths:
            raise Unknown(name)
        del self._worths[name]

    def names(self):
        """Return the ascending list of the names."""
        return sorted(list(self._worths))

    def pairs(self):
        """Return the ascending list of the tuples (name, worth)."""
        return [(name, self._worths[name]) for name in self.names()]

    def upto(self, worth):
        """Return how many worths are at most a whole number."""
        if not is_whole(worth):
            raise InvalidNumber(worth)
        return len([one for one in self._worths.values() if one <= worth])

    def below(self, worth):
        """Return how many worths are less than a whole number."""
        if not is_whole(worth):
            raise InvalidNumber(worth)
        return len([one for one in self._worths.values() if one < worth])

    def copy(self):
        """Return an independent lot that is equal."""
        return Lot(self.pairs())


def is_lot(value):
    """Return whether a value is a lot."""
    return isinstance(value, Lot)


def lot_of(names):
    """Return the lot in which the names have the worths 1, 2 and so on."""
    if not are_names(names):
        raise InvalidList(names)
    return Lot([(name, at) for at, name in enumerate(names, start=1)])


def ends_of(tree, lot):
    """Return the ascending list of the ends of a tree in a lot."""
    check_kinds(tree, lot)
    check_full(tree, lot)
    return _outs(tree, lot)[0]


def end_of(tree, lot, j=1):
    """Return end j of a tree in a lot."""
    check_kinds(tree, lot)
    if not is_end(tree, j):
        raise InvalidNumber(j)
    check_full(tree, lot)
    return _outs(tree, lot)[0][j - 1]


def outs_of(tree, lot):
    """Return the list of the ends of each node of a tree in a lot."""
    check_kinds(tree, lot)
    check_full(tree, lot)
    return _outs(tree, lot)


def check_kinds(tree, lot):
    """Raise an error unless the values are a tree and a lot."""
    if not is_tree(tree):
        raise InvalidTree(tree)
    if not is_lot(lot):
        raise InvalidLot(lot)


def check_full(tree, lot):
    """Raise an error unless each leaf has a worth."""
    for name in tree.names():
        if name not in lot:
            raise Lacking(name)


def _outs(tree, lot):
    """Return the ends of each node; the first list is that of the tree itself."""
    if isinstance(tree, Leaf):
        return [[lot[tree.name]]]
    within = [_outs(part, lot) for part in tree.parts]
    taken = sorted([end for outs in within for end in outs[0]])
    passed = [taken[rank - 1] for rank in tree.ranks]
    return [passed] + [ends for outs in within for ends in outs]
