"""What is sure of an end while some worths are lacking, and which worths can change it."""

from rankpicks.errors import InvalidNumber
from rankpicks.lots import Lot, check_full, check_kinds, end_of
from rankpicks.trees import Leaf, is_end, low_ends


def between(tree, lot, j=1):
    """Return the tuple of the least and the greatest value that end j can have, None for a side without a bound."""
    _check(tree, lot, j)
    worths = [lot[name] for name in tree.names() if name in lot]
    # What the lacking worths can go below, and above, is all that there is.
    below, above = min(worths, default=0) - 1, max(worths, default=0) + 1
    least = end_of(tree, _filled(tree, lot, below), j)
    greatest = end_of(tree, _filled(tree, lot, above), j)
    return (None if least == below else least, None if greatest == above else greatest)


def matters(tree, lot, j=1):
    """Return the list of the names of the leaves without a worth whose worth can still change end j."""
    _check(tree, lot, j)
    free = [name for name in tree.names() if name not in lot]
    lists = _low_lists(tree, lot)
    return [name for name in free if any([j - 1 in _turns(tree, name, low, free) for low in lists])]


def decides(tree, lot, j=1):
    """Return the list of the names of the leaves whose worth alone can change end j."""
    _check(tree, lot, j)
    check_full(tree, lot)
    return [name for name in tree.names() if _changes_alone(tree, lot, name, j)]


def _check(tree, lot, j):
    check_kinds(tree, lot)
    if not is_end(tree, j):
        raise InvalidNumber(j)


def _filled(tree, lot, worth):
    """Return the lot of the leaves, with this worth for those that lack one."""
    return Lot([(name, lot[name] if name in lot else worth) for name in tree.names()])


def _low_lists(tree, lot):
    """Return, for each bound that tells known worths apart, the list of the leaves whose worths are not greater."""
    known = [name for name in tree.names() if name in lot]
    bounds = sorted(set([lot[name] for name in known]))
    return [[]] + [[name for name in known if lot[name] <= bound] for bound in bounds]


def _turns(tree, name, low, free):
    """Return the numbers of low ends from which this leaf leads to one more, for some choice of other free leaves."""
    if isinstance(tree, Leaf):
        return [0]
    turns, least, most = [], 0, 0
    for part in tree.parts:
        if name in part:
            turns = _turns(part, name, low, free)
        else:
            least = least + low_ends(part, low)
            most = most + low_ends(part, low + free)
    # One more low leaf makes one more end low at most, so that the other parts can have any number between the two.
    taken = [turn + more for turn in turns for more in range(least, most + 1)]
    return [at for at, rank in enumerate(tree.ranks) if rank - 1 in taken]


def _changes_alone(tree, lot, name, j):
    others = Lot([(other, lot[other]) for other in tree.names() if other != name])
    least, greatest = between(tree, others, j)
    # An end that is None on one side is as low, or as high, as the worth of this leaf.
    return least is None or least != greatest
