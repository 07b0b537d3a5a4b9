"""Which of two trees never has the higher end, and which trees are alike in every lot."""

from rankpicks.errors import InvalidNumber, InvalidTree
from rankpicks.lots import Lot
from rankpicks.trees import Group, Leaf, is_end, is_tree


def parting(one, other, j=1, k=1):
    """Return a lot of 0 and 1 in which end j of one tree is greater than end k of the other one, None without one."""
    _check_trees(one, other)
    if not is_end(one, j):
        raise InvalidNumber(j)
    if not is_end(other, k):
        raise InvalidNumber(k)
    names = one.names()
    apart = _sets_by_ends(other, names)[k] & ~_sets_by_ends(one, names)[j]
    if apart == 0:
        return None
    low = _first_bit(apart)
    return Lot([(name, 0 if low >> at & 1 else 1) for at, name in enumerate(names)])


def alike(one, other):
    """Return whether two trees have the same ends in every lot."""
    _check_trees(one, other)
    if is_simple(one) and is_simple(other):
        return _normal(one) == _normal(other)
    names = one.names()
    return one.width == other.width and _sets_by_ends(one, names) == _sets_by_ends(other, names)


def is_simple(tree):
    """Return whether each group of a tree has one rank."""
    if not is_tree(tree):
        raise InvalidTree(tree)
    return all([node.width == 1 for node in tree.nodes()])


def normal(tree):
    """Return the normal form of a simple tree."""
    if not is_simple(tree):
        raise InvalidTree(tree)
    return _normal(tree)


def _check_trees(one, other):
    if not is_tree(one):
        raise InvalidTree(one)
    if not is_tree(other) or sorted(one.names()) != sorted(other.names()):
        raise InvalidTree(other)


def _sets_by_ends(tree, names):
    """Return whole numbers for no end, one end, two ends and so on; bit s tells if set s makes so many ends low.

    The sets of names are counted as they are written in bits: a name is in set s if the bit at its place is 1 in s.
    """
    all_sets, with_name = _sets_of(names)
    return _low_sets(tree, all_sets, with_name)


def _sets_of(names):
    """Return the number with a bit for each set of names, and those with bits for the sets with each name."""
    many, with_name = 1, {}
    for name in names:
        # Behind the sets of the names before come as many again, the same with this name.
        with_name = {known: sets | sets << many for known, sets in with_name.items()}
        with_name[name] = ((1 << many) - 1) << many
        many = many * 2
    return ((1 << many) - 1, with_name)


def _low_sets(tree, all_sets, with_name):
    if isinstance(tree, Leaf):
        return [all_sets, with_name[tree.name]]
    taken = [all_sets]
    for part in tree.parts:
        taken = _joined(taken, _low_sets(part, all_sets, with_name))
    return [all_sets] + [taken[rank] for rank in tree.ranks]


def _joined(one, other):
    """Return the sets for the ends of two trees together, of the sets for each of them."""
    found = [0] * (len(one) + len(other) - 1)
    for ends, sets in enumerate(one):
        for more, beside in enumerate(other):
            found[ends + more] = found[ends + more] | sets & beside
    return found


def _first_bit(number):
    return (number & -number).bit_length() - 1


def _normal(tree):
    if isinstance(tree, Leaf):
        return tree
    parts = [_normal(part) for part in tree.parts]
    if len(parts) == 1:
        return parts[0]
    rank = tree.ranks[0]
    if rank == 1:
        parts = _opened(parts, _is_least)
    elif rank == len(parts):
        parts = _opened(parts, _is_greatest)
        rank = len(parts)
    return Group([rank], sorted(parts, key=_least_name))


def _opened(parts, fits):
    """Return the parts, with their own parts in the place of those groups that fit."""
    return [inner for part in parts for inner in (part.parts if fits(part) else [part])]


def _is_least(tree):
    return isinstance(tree, Group) and tree.ranks == [1]


def _is_greatest(tree):
    return isinstance(tree, Group) and tree.ranks == [tree.intake]


def _least_name(tree):
    return min(tree.names())
