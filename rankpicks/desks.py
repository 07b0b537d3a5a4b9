"""Desks, which hold a tree and the worths of its leaves as they come in."""

from rankpicks.checks import is_whole
from rankpicks.errors import InvalidLot, InvalidNumber, InvalidTree
from rankpicks.lots import Lot, end_of, is_lot
from rankpicks.partial import between, matters
from rankpicks.trees import check_leaf, is_tree


class Desk:
    """A tree, the worths of its leaves as far as they are there, and the changes that led to them."""

    def __init__(self, tree, lot=None):
        if not is_tree(tree):
            raise InvalidTree(tree)
        if lot is not None and not is_lot(lot):
            raise InvalidLot(lot)
        given = Lot() if lot is None else lot
        self._tree = tree
        self._lot = Lot([(name, given[name]) for name in tree.names() if name in given])
        # Each change is kept with the worth that was there before, None for none.
        self._changes = []

    @property
    def tree(self):
        """The tree."""
        return self._tree

    @property
    def lot(self):
        """A lot of the worths that are there."""
        return Lot(self._lot.pairs())

    @property
    def made(self):
        """The number of changes that have not been undone."""
        return len(self._changes)

    def __getitem__(self, name):
        check_leaf(self._tree, name)
        return self._lot[name] if name in self._lot else None

    def __setitem__(self, name, worth):
        _check_change(self._tree, name, worth)
        self._change(name, worth)

    def __contains__(self, name):
        return name in self._lot

    # Python would otherwise go over a desk by its items.
    def __iter__(self):
        raise TypeError("a desk cannot be iterated over: take the names of its lot")

    def __len__(self):
        return len(self._lot)

    def forget(self, name):
        """Take the worth of a leaf away."""
        check_leaf(self._tree, name)
        self._change(name, None)

    def between(self, j=1):
        """Return the tuple of the least and the greatest value that end j can have, None for a side without a bound."""
        return between(self._tree, self._lot, j)

    def matters(self, j=1):
        """Return the list of the names of the leaves without a worth whose worth can still change end j."""
        return matters(self._tree, self._lot, j)

    def end(self, j=1):
        """Return end j."""
        return end_of(self._tree, self._lot, j)

    def what_if(self, name, worth, j=1):
        """Return what `between` would tell if the leaf had this worth."""
        _check_change(self._tree, name, worth)
        lot = self._lot.copy()
        lot[name] = worth
        return between(self._tree, lot, j)

    def back(self):
        """Undo the last change that has not been undone; return the name that it changed, None without a change."""
        if len(self._changes) == 0:
            return None
        name, worth = self._changes.pop()
        self._place(name, worth)
        return name

    def copy(self):
        """Return an independent desk with the same tree, worths and changes."""
        desk = Desk(self._tree, self._lot)
        desk._changes = list(self._changes)
        return desk

    def _change(self, name, worth):
        self._changes.append((name, self[name]))
        self._place(name, worth)

    def _place(self, name, worth):
        if worth is not None:
            self._lot[name] = worth
        elif name in self._lot:
            self._lot.drop(name)


def _check_change(tree, name, worth):
    check_leaf(tree, name)
    if not is_whole(worth):
        raise InvalidNumber(worth)
