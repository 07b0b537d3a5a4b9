"""What the tests count with: trees as plain tuples, counted by hand, and values of every kind.

A plain tree is a name, or a tuple (ranks, parts) of a tuple of ranks and a tuple of plain trees.
"""

from itertools import combinations, product

from rankpicks.errors import InvalidName, Unknown
from rankpicks.lots import Lot
from rankpicks.trees import Group, Leaf


def built(plain):
    """The tree of the package that a plain tree describes."""
    if isinstance(plain, str):
        return Leaf(plain)
    ranks, parts = plain
    return Group(list(ranks), [built(part) for part in parts])


def plain_of(tree):
    """The plain tree that describes a tree of the package."""
    if isinstance(tree, Leaf):
        return tree.name
    return (tuple(tree.ranks), tuple(plain_of(part) for part in tree.parts))


def plain_width(plain):
    return 1 if isinstance(plain, str) else len(plain[0])


def plain_names(plain):
    return [plain] if isinstance(plain, str) else [name for part in plain[1] for name in plain_names(part)]


def plain_nodes(plain):
    found = [plain]
    if not isinstance(plain, str):
        for part in plain[1]:
            found.extend(plain_nodes(part))
    return found


def plain_ends(plain, worths):
    """The ends in a dict of worths, straight from the definition of a group."""
    if isinstance(plain, str):
        return [worths[plain]]
    taken = []
    for part in plain[1]:
        taken.extend(plain_ends(part, worths))
    taken.sort()
    return [taken[rank - 1] for rank in plain[0]]


def plain_put(plain, name, other):
    if isinstance(plain, str):
        return other if plain == name else plain
    return (plain[0], tuple(plain_put(part, name, other) for part in plain[1]))


def splits(names):
    """All ways to cut a tuple of names into consecutive parts that are not empty."""
    if not names:
        return [[]]
    return [[names[:cut]] + rest for cut in range(1, len(names) + 1) for rest in splits(names[cut:])]


def rank_choices(intake):
    ranks = range(1, intake + 1)
    return [chosen for many in ranks for chosen in combinations(ranks, many)]


def plain_trees(names, levels):
    """All plain trees with these names in this order and at most so many levels of groups."""
    found = [names[0]] if len(names) == 1 else []
    if levels == 0:
        return found
    for split in splits(names):
        for parts in product(*[plain_trees(part, levels - 1) for part in split]):
            intake = sum(plain_width(part) for part in parts)
            found.extend((ranks, parts) for ranks in rank_choices(intake))
    return found


def small_trees(most):
    """All plain trees with at most two levels of groups and up to so many leaves."""
    return [plain for many in range(1, most + 1) for plain in plain_trees(tuple("bacd"[:many]), 2)]


def some_trees():
    """All small trees up to four leaves, and some with five leaves or three levels of groups."""
    return small_trees(4) + plain_trees(tuple("dbeac"), 2)[::120] + plain_trees(tuple("bacd"), 3)[::250]


def plain_passes(plain, low):
    """How many ends are low: those that are 0 if the worths of the low leaves are, and all others 1."""
    return plain_ends(plain, {name: 0 if name in low else 1 for name in plain_names(plain)}).count(0)


def subsets(names):
    return [list(chosen) for many in range(len(names) + 1) for chosen in combinations(names, many)]


def chain(plain, levels):
    """The plain tree within so many groups that pass up all that it has."""
    for _ in range(levels):
        plain = (tuple(range(1, plain_width(plain) + 1)), (plain,))
    return plain


def nine_tree():
    """The middle one of three middle ones."""
    return ((2,), tuple(((2,), tuple(row)) for row in ("abc", "def", "ghi")))


def full_names():
    """Forty names of eight letters."""
    return ["leaf" + one + two + "zz" for one in "abcde" for two in "stuvwxyz"]


def full_tree():
    """A plain tree at the limits: 40 leaves, 200 nodes, 70 levels of groups and 20 ends."""
    leaves = [chain(name, 3 if at < 6 else 2) for at, name in enumerate(full_names())]
    fives = tuple(((1, 3, 5), tuple(leaves[at:at + 5])) for at in range(0, 40, 5))
    return chain((tuple(range(3, 23)), fives), 65)


def plain_levels(plain):
    return 0 if isinstance(plain, str) else 1 + max(plain_levels(part) for part in plain[1])


def deep_list():
    """A list that is 90 deep."""
    value = "a"
    for _ in range(90):
        value = [value]
    return value


def values():
    """Values of every kind, right ones and wrong ones."""
    numbers = [None, True, False, 0, 1, -1, 2, 10 ** 40, -(10 ** 40)]
    texts = ["", "a", "b", "abcdefgh", "abcdefghi", "A", "aB", "a1", "1", "a b", " a", "a\n", "\n", "_", "{", "`"]
    lists = [[], ["a"], ["a", "a"], [1], [True], [None], ["A"], [["a"]], [("a",)], [("a", 1)], [["a", 1]], deep_list()]
    tuples = [(), ("a",), ("a", 1), ("a", "b"), (1, 2), (("a", 1),), ([],)]
    dicts = [{}, {"a": 1}, {1: "a"}, {"a": [{}]}]
    trees = [Leaf("a"), Group([1], [Leaf("a")]), Group([1, 2], [Leaf("a"), Leaf("b")])]
    others = [Lot(), Lot([("a", 1)]), InvalidName("a"), Unknown()]
    return numbers + texts + lists + tuples + dicts + trees + others


def is_plain_name(value):
    letters = "abcdefghijklmnopqrstuvwxyz"
    return type(value) is str and len(value) in range(1, 9) and set(value) <= set(letters)


def no_names():
    return [value for value in values() if not is_plain_name(value)]


def no_numbers():
    return [value for value in values() if type(value) is not int]


def no_trees():
    return [value for value in values() if type(value) not in (Leaf, Group)]


def no_lots():
    return [value for value in values() if type(value) is not Lot]
