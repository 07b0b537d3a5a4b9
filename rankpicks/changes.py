"""What has to be changed in a lot to bring an end to a bound."""

from rankpicks.checks import are_name_pairs, is_whole
from rankpicks.counts import cheapest
from rankpicks.errors import InvalidList, InvalidNumber
from rankpicks.lots import check_full, check_kinds
from rankpicks.trees import is_end


def fewest(tree, lot, bound, j=1, *, up=False, prices=None):
    """Return the tuple of the least price and the names of leaves whose new worths bring end j to the bound."""
    _check(tree, lot, bound, j, prices)
    costs = _all_prices(tree, prices)
    there = [name for name in tree.names() if (lot[name] >= bound if up else lot[name] <= bound)]
    left = {name: 0 if name in there else costs[name] for name in tree.names()}
    names = [name for name in _bringing(tree, j, up, left) if name not in there]
    return (sum([costs[name] for name in names]), sorted(names))


def _check(tree, lot, bound, j, prices):
    check_kinds(tree, lot)
    if not is_whole(bound):
        raise InvalidNumber(bound)
    if not is_end(tree, j):
        raise InvalidNumber(j)
    if prices is not None and not _are_prices(tree, prices):
        raise InvalidList(prices)
    check_full(tree, lot)


def _are_prices(tree, prices):
    if not are_name_pairs(prices):
        return False
    return all([name in tree and is_whole(price) and price >= 0 for name, price in prices])


def _all_prices(tree, prices):
    given = {} if prices is None else dict(prices)
    return {name: given.get(name, 1) for name in tree.names()}


def _bringing(tree, j, up, costs):
    """Return the cheapest names that bring end j to the bound if the worths of just these leaves are there."""
    if up:
        # What is high in a tree is low in its mirror, where the ends are counted from the other side.
        return cheapest(tree.mirror(), costs)[0][tree.width + 1 - j]
    return cheapest(tree, costs)[0][j]
