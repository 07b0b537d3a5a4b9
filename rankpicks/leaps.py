"""By how far one changed worth can move an end."""

from rankpicks.errors import InvalidNumber, InvalidTree
from rankpicks.lots import lot_of
from rankpicks.trees import Leaf, check_leaf, is_end, is_tree


def leap_of(tree, name, j=1):
    """Return the greatest number of other worths between two ends j that one changed worth leads to."""
    _check(tree, name, j)
    _, between = _widest(tree, name, j)
    return len(between)


def leap_lots(tree, name, j=1):
    """Return a tuple of two lots that differ in one worth, with as many worths between their ends j as can be."""
    _check(tree, name, j)
    below, between = _widest(tree, name, j)
    above = [other for other in tree.names() if other not in [name] + below + between]
    lesser = lot_of([name] + below + between + above)
    greater = lesser.copy()
    greater[name] = len(tree) + 1
    return (lesser, greater)


def _check(tree, name, j):
    if not is_tree(tree):
        raise InvalidTree(tree)
    check_leaf(tree, name)
    if not is_end(tree, j):
        raise InvalidNumber(j)


def _widest(tree, name, j):
    """Return the names below and those between, as many of these as can be, that let this leaf turn end j.

    If this leaf and those below make j ends low, the lesser end is not above them; if all below and between without
    this leaf do not, the greater end is above them. As one leaf makes one more end low at most, it is j ends and
    j - 1 then.
    """
    return _choices(tree, name)[(j, j - 1)]


def _choices(tree, name):
    """Return tuples of names below and names between, as many of these as can be, by what they make low.

    The key is a tuple of how many ends are low if this leaf and all below are, and how many if all below and between
    are, but not this leaf.
    """
    if isinstance(tree, Leaf):
        return _choices_of_leaf(tree.name, name)
    taken = {(0, 0): ([], [])}
    for part in tree.parts:
        taken = _joined(taken, _choices(part, name))
    ranks = tree.ranks
    passed = {}
    for (lesser, greater), choice in taken.items():
        _keep_widest(passed, (_passed(ranks, lesser), _passed(ranks, greater)), choice)
    return passed


def _choices_of_leaf(leaf, name):
    if leaf == name:
        return {(1, 0): ([], [])}
    return {(0, 0): ([], []), (0, 1): ([], [leaf]), (1, 1): ([leaf], [])}


def _joined(one, other):
    """Return the choices for the ends of two trees together, of the choices for each of them."""
    found = {}
    for (lesser, greater), (below, between) in one.items():
        for (more, much), (beside, amid) in other.items():
            _keep_widest(found, (lesser + more, greater + much), (below + beside, between + amid))
    return found


def _keep_widest(found, key, choice):
    if key not in found or len(choice[1]) > len(found[key][1]):
        found[key] = choice


def _passed(ranks, ends):
    """Return how many ends are low of a group with these ranks that takes so many low ends in."""
    return len([rank for rank in ranks if rank <= ends])
