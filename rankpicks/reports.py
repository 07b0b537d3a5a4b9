"""Reports, which tell the ends of a tree, and what is sure of the worths behind them."""

from rankpicks.checks import is_whole
from rankpicks.counts import count_table, high_names, low_names
from rankpicks.errors import InvalidList, InvalidNumber, InvalidReport, InvalidTree
from rankpicks.lots import Lot
from rankpicks.trees import is_tree


class Report:
    """The ends of a tree whose worths nobody else knows."""

    def __init__(self, tree, told):
        if not is_tree(tree):
            raise InvalidTree(tree)
        if not _are_told(told, tree.width):
            raise InvalidReport(told)
        self._tree = tree
        self._told = list(told)
        self._fewest = count_table(tree)[0]
        # As few leaves as make the other ends high are left out: those that make them low in the mirror.
        self._most = [len(tree) - high for high in count_table(tree.mirror())[0][::-1]]

    @property
    def tree(self):
        """The tree."""
        return self._tree

    @property
    def told(self):
        """The ascending list of the ends."""
        return list(self._told)

    def upto(self, worth):
        """Return the tuple of the least and the greatest number of worths that can be at most a whole number."""
        if not is_whole(worth):
            raise InvalidNumber(worth)
        low = _count_upto(self._told, worth)
        return (self._fewest[low], self._most[low])


def few_lot(report, worth):
    """Return a lot behind the report in which as few worths as can be are at most a whole number."""
    _check(report, worth)
    low = _count_upto(report.told, worth)
    names = low_names(report.tree, low) if low > 0 else []
    return _lot_behind(report, worth, names)


def many_lot(report, worth):
    """Return a lot behind the report in which as many worths as can be are at most a whole number."""
    _check(report, worth)
    low = _count_upto(report.told, worth)
    tree = report.tree
    high = high_names(tree, low + 1) if low < tree.width else []
    return _lot_behind(report, worth, [name for name in tree.names() if name not in high])


def known_counts(reports, worth):
    """Return the tuple of the least and the greatest number of worths behind all reports that can be at most one."""
    _check_list(reports)
    # The first report raises the error for a worth that is none.
    counts = [report.upto(worth) for report in reports]
    return (sum([few for few, many in counts]), sum([many for few, many in counts]))


def kth(reports, rank):
    """Return the tuple of the least and the greatest worth that can have a rank, None for a side without a bound."""
    _check_list(reports)
    if not is_whole(rank) or not 1 <= rank <= sum([len(report.tree) for report in reports]):
        raise InvalidNumber(rank)
    ends = sorted(set([end for report in reports for end in report.told]))
    # How many worths can be at most a number changes at the told ends only.
    possible = [end for end in ends if known_counts(reports, end)[1] >= rank]
    sure = [end for end in ends if known_counts(reports, end)[0] >= rank]
    unbound = known_counts(reports, ends[0] - 1)[1] >= rank
    return (None if unbound else min(possible), min(sure, default=None))


def _check(report, worth):
    if not isinstance(report, Report):
        raise InvalidReport(report)
    if not is_whole(worth):
        raise InvalidNumber(worth)


def _check_list(reports):
    if not isinstance(reports, list) or len(reports) == 0:
        raise InvalidList(reports)
    if not all([isinstance(report, Report) for report in reports]):
        raise InvalidList(reports)


def _are_told(value, width):
    if not isinstance(value, list) or len(value) != width or not all([is_whole(end) for end in value]):
        return False
    return all([end <= following for end, following in zip(value, value[1:])])


def _count_upto(ends, worth):
    return len([end for end in ends if end <= worth])


def _lot_behind(report, worth, low):
    """Return a lot with the told ends in which the worths of just these leaves are at most `worth`.

    The leaves come one after another in ascending order of their worths, the low ones first. Each has the first end
    that those before it do not reach, so that the leaf that makes one more end low is this end; only low leaves that
    come when all ends up to `worth` are reached have `worth` itself.
    """
    tree = report.tree
    # Leaves that come when all ends are reached are above the last one, or high at least.
    steps = report.told + [max(report.told[-1], worth + 1)]
    order = low + [name for name in tree.names() if name not in low]
    pairs = []
    for at, name in enumerate(order):
        step = steps[tree.passes(order[:at])]
        pairs.append((name, min(step, worth) if name in low else step))
    return Lot(pairs)
