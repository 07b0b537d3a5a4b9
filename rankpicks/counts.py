"""How few low leaves make an end low, and how many leave it high."""

from rankpicks.checks import is_whole
from rankpicks.errors import InvalidTree
from rankpicks.trees import Leaf, check_end, is_tree


def least_rank(tree, j=1):
    """Return the least number of low leaves that makes j ends low."""
    return len(low_names(tree, j))


def greatest_rank(tree, j=1):
    """Return one more than the greatest number of low leaves that leaves less than j ends low."""
    high = high_names(tree, j)
    return len(tree) - len(high) + 1


def low_names(tree, j=1):
    """Return an ascending list of the fewest names that make j ends low."""
    check_end(tree, j)
    return sorted(cheapest(tree, _ones(tree))[0][j])


def high_names(tree, j=1):
    """Return an ascending list of the fewest names without which less than j ends are low."""
    check_end(tree, j)
    # What is high in a tree is low in its mirror, where the ends are counted from the other side.
    return low_names(tree.mirror(), tree.width + 1 - j)


def count_table(tree):
    """Return, for each node, how many low leaves it needs for no end, one end, two ends and so on."""
    if not is_tree(tree):
        raise InvalidTree(tree)
    return [[len(names) for names in lists] for lists in cheapest(tree, _ones(tree))]


def is_count_table(tree, claim):
    """Return whether a value is a table that claims no more for a node than those of its parts bear out."""
    if not is_tree(tree):
        raise InvalidTree(tree)
    nodes = tree.nodes()
    if not isinstance(claim, list) or len(claim) != len(nodes):
        return False
    if not all([_is_row(node, row) for node, row in zip(nodes, claim)]):
        return False
    return all([_is_borne_out(node, claim[at:]) for at, node in enumerate(nodes)])


def cheapest(tree, prices):
    """Return, for each node, the lists of names that make no end low, one end, two ends and so on.

    No others have a lower sum of their prices, which is a dict of whole numbers of at least 0.
    """
    if isinstance(tree, Leaf):
        return [[[], [tree.name]]]
    within = [cheapest(part, prices) for part in tree.parts]
    taken = [[]]
    for lists in within:
        # One more low end never costs less, so that no part need have more low ends than are asked for.
        taken = [_cheapest_of(sums, prices) for sums in _sums_by_place(taken, lists[0])]
    passed = [taken[0]] + [taken[rank] for rank in tree.ranks]
    return [passed] + [node for nodes in within for node in nodes]


def _ones(tree):
    """Return prices with which the cheapest names are the fewest."""
    return {name: 1 for name in tree.names()}


def _cheapest_of(lists, prices):
    return min(lists, key=lambda names: sum([prices[name] for name in names]))


def _sums_by_place(one, other):
    """Return, for each place, the sums of an item of each of two lists whose places add up to it."""
    found = [[] for _ in range(len(one) + len(other) - 1)]
    for at, item in enumerate(one):
        for beside, more in enumerate(other):
            found[at + beside].append(item + more)
    return found


def _is_row(node, row):
    if not isinstance(row, list) or len(row) != node.width + 1:
        return False
    return all([is_whole(number) for number in row]) and row[0] == 0


def _is_borne_out(node, rows):
    """Return whether the first row, that of the node, keeps to what the others, of all that follows, allow."""
    if isinstance(node, Leaf):
        return rows[0][1] <= 1
    taken, at = [0], 1
    for part in node.parts:
        taken = [min(sums) for sums in _sums_by_place(taken, rows[at])]
        at = at + len(part.nodes())
    # A claim may fall from one place to the next, so that the least sum may stand at any place from the rank on.
    return all([number <= min(taken[rank:]) for number, rank in zip(rows[0][1:], node.ranks)])
