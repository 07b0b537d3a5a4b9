"""Which ranks of all worths an end can have, and orders of the worths in which it has them."""

from rankpicks.checks import is_whole
from rankpicks.counts import greatest_rank, high_names, least_rank, low_names
from rankpicks.errors import InvalidNumber, InvalidTree
from rankpicks.lots import end_of
from rankpicks.trees import check_end, is_tree


def rank_span(tree, j=1):
    """Return the tuple of the least and the greatest rank that end j can have."""
    return (least_rank(tree, j), greatest_rank(tree, j))


def rank_in(tree, lot, j=1):
    """Return the tuple of the first and the last rank that end j has in a lot."""
    end = end_of(tree, lot, j)
    worths = [lot[name] for name in tree.names()]
    lesser = len([worth for worth in worths if worth < end])
    return (lesser + 1, lesser + worths.count(end))


def order_at(tree, rank, j=1):
    """Return an order of all names in which end j has a rank, None if there is none."""
    if not is_tree(tree):
        raise InvalidTree(tree)
    if not is_whole(rank) or not 1 <= rank <= len(tree):
        raise InvalidNumber(rank)
    check_end(tree, j)
    low, high = low_names(tree, j), high_names(tree, j)
    if not len(low) <= rank <= len(tree) - len(high) + 1:
        return None
    enough = low + [name for name in tree.names() if name not in low]
    too_few = [name for name in tree.names() if name not in high]
    first = _up_to_turn(tree, j, enough[:rank], too_few)
    return first + [name for name in tree.names() if name not in first]


def _up_to_turn(tree, j, enough, too_few):
    """Return a list, as long as `enough`, of names that make j ends low, and do not without the last one.

    On the way from `enough` to names of `too_few`, one name leaves and another one comes by turns. What comes never
    takes a low end away, so that it is when a name leaves that there are less than j low ends for the first time.
    """
    both = [name for name in enough if name in too_few]
    leaving = [name for name in enough if name not in too_few]
    coming = [name for name in too_few if name not in enough]
    at = 0
    while tree.passes(both + coming[:at] + leaving[at + 1:]) >= j:
        at = at + 1
    return both + coming[:at] + leaving[at + 1:] + [leaving[at]]
