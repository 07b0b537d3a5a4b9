"""How many sets of low leaves make an end low, and how many orders of the worths give it which rank."""

from math import factorial, gcd

from rankpicks.trees import Leaf, check_end


def set_counts(tree, j=1):
    """Return, for each size, the number of sets of so many low leaves that make j ends low."""
    check_end(tree, j)
    rows = _sets_by_ends(tree)[j:]
    return [sum([row[size] for row in rows]) for size in range(len(tree) + 1)]


def order_counts(tree, j=1):
    """Return, for each rank, the number of orders of all names in which end j has it."""
    counts = set_counts(tree, j)
    leaves = len(tree)
    # A set of low leaves is the beginning of so many orders: those of itself, and those of all others.
    reached = [many * factorial(size) * factorial(leaves - size) for size, many in enumerate(counts)]
    return [reached[rank] - reached[rank - 1] for rank in range(1, leaves + 1)]


def mean_rank(tree, j=1):
    """Return the mean rank of end j over all orders, as a tuple (numerator, denominator) in lowest terms."""
    orders = order_counts(tree, j)
    total = sum([rank * many for rank, many in enumerate(orders, start=1)])
    all_orders = factorial(len(tree))
    common = gcd(total, all_orders)
    return (total // common, all_orders // common)


def _sets_by_ends(tree):
    """Return, for each number of low ends, the list of the numbers of sets of each size that have just so many."""
    if isinstance(tree, Leaf):
        return [[1, 0], [0, 1]]
    taken = [[1]]
    for part in tree.parts:
        taken = _joined(taken, _sets_by_ends(part))
    passed = [[0] * len(taken[0]) for _ in range(tree.width + 1)]
    for ends, row in enumerate(taken):
        low = len([rank for rank in tree.ranks if rank <= ends])
        passed[low] = [many + more for many, more in zip(passed[low], row)]
    return passed


def _joined(one, other):
    """Return the numbers of sets for the ends of two trees together, of the numbers for each of them."""
    sizes = len(one[0]) + len(other[0]) - 1
    found = [[0] * sizes for _ in range(len(one) + len(other) - 1)]
    for ends, row in enumerate(one):
        for more, beside in enumerate(other):
            _add_products(found[ends + more], row, beside)
    return found


def _add_products(total, row, beside):
    for size, many in enumerate(row):
        for more, others in enumerate(beside):
            total[size + more] += many * others
