"""Promise [60], and [1] to [3] as far as they bear on leaps."""

import unittest
from itertools import combinations, permutations, product

from asks import Asking, InTime
from plain import (built, chain, full_names, nine_tree, no_names, no_numbers, no_trees, plain_ends, plain_levels,
                   plain_names, plain_nodes, plain_of, plain_trees, plain_width, small_trees)
from rankpicks.errors import InvalidName, InvalidNumber, InvalidTree, Unknown
from rankpicks.leaps import leap_lots, leap_of
from rankpicks.lots import Lot
from rankpicks.trees import Group, Leaf

HUGE = 10 ** 40 - 1
BOTH = (leap_of, leap_lots)
EXAMPLE = ((1, 3), (((2,), ("a", "b", "c")), "d", "e"))
THREE = ((2, 3), (((1, 2, 4), ("a", "b", "c", "d")), "e"))


def leaps_by_hand(plain, name):
    """For each end, the most worths between, over all pairs of lots that differ in one worth."""
    others = [other for other in plain_names(plain) if other != name]
    found = [-1] * plain_width(plain)
    # Two worths in each gap of the others tell all that a worth can do.
    places = [10 * gap + step for gap in range(len(others) + 1) for step in (1, 2)]
    for order in permutations(range(10, 10 * len(others) + 1, 10)):
        worths = dict(zip(others, order))
        ends = [plain_ends(plain, {**worths, name: place}) for place in places]
        for one, other in combinations(ends, 2):
            for j, (low, high) in enumerate(zip(one, other)):
                if low != high:
                    found[j] = max(found[j], len([worth for worth in order if low < worth < high]))
    return found


def leap_by_sizes(ranks, inner, sizes, j):
    """The leap of end j for a leaf of the first of some groups of leaves, by the numbers of leaves below and between.

    The groups have so many leaves and all pass up the ranks `inner`; `ranks` are those of the group of all of them.
    """
    def passed(many):
        return len([rank for rank in inner if rank <= many])

    choices = []
    for at, size in enumerate(sizes):
        leaves = size - (at == 0)
        best = {}
        for below in range(leaves + 1):
            for between in range(leaves - below + 1):
                key = (passed(below + (at == 0)), passed(below + between))
                best[key] = max(between, best.get(key, 0))
        choices.append(best)
    fitting = [chosen for chosen in product(*[list(best) for best in choices])
               if sum(low for low, _ in chosen) >= ranks[j - 1] > sum(high for _, high in chosen)]
    return max(sum(best[key] for best, key in zip(choices, chosen)) for chosen in fitting)


class Checks(Asking):
    def check_lots(self, plain, tree, name, j, leap):
        found = leap_lots(tree, name, j)
        self.assertIs(type(found), tuple)
        lesser, greater = found
        self.assertTrue(type(lesser) is Lot and type(greater) is Lot and lesser is not greater)
        names = sorted(plain_names(plain))
        for lot in found:
            self.assertEqual(lot.names(), names)
            self.assertEqual(len({lot[other] for other in names}), len(names))
        self.assertEqual([other for other in names if lesser[other] != greater[other]], [name])
        low, high = [plain_ends(plain, dict(lot.pairs()))[j - 1] for lot in found]
        self.assertLess(low, high)
        between = [other for other in names if other != name and low < lesser[other] < high]
        self.assertEqual(len(between), leap, (plain, name, j))

    def check(self, plain, name, j, leap):
        tree = built(plain)
        found = leap_of(tree, name, j)
        self.assertIs(type(found), int)
        self.assertEqual(found, leap, (plain, name, j))
        self.check_lots(plain, tree, name, j, leap)


class Leaps(Checks):
    def test_the_example(self):
        tree, nine = built(EXAMPLE), built(nine_tree())
        self.assertEqual([leap_of(tree, "a"), leap_of(tree, "d", 2), leap_of(nine, "a")], [0, 1, 2])
        self.check(EXAMPLE, "a", 1, 0)
        self.check(EXAMPLE, "d", 2, 1)
        self.check(nine_tree(), "a", 1, 2)

    def over_all_pairs_of_lots(self, plains):
        for plain in plains:
            for name in plain_names(plain):
                for j, leap in enumerate(leaps_by_hand(plain, name), start=1):
                    self.check(plain, name, j, leap)

    def test_small_trees(self):
        self.over_all_pairs_of_lots(small_trees(3))

    def test_four_leaves(self):
        self.over_all_pairs_of_lots(plain_trees(tuple("bacd"), 2)[::4])

    def test_three_levels(self):
        self.over_all_pairs_of_lots(plain_trees(tuple("bacd"), 3)[::200])

    def test_five_leaves(self):
        self.over_all_pairs_of_lots(plain_trees(tuple("dbeac"), 2)[::300] + [EXAMPLE, THREE])

    def test_six_leaves(self):
        pairs = (((1,), ("a", "b")), ((2,), ("c", "d")), ((1, 2), ("e", "f")))
        rows = (((1, 3), ("a", "b", "c")), ((2,), ("d", "e", "f")))
        for plain in (((2, 3), pairs), ((2,), rows), ((1,), (((2, 3), rows),))):
            for name in ("a", "d", "e"):
                for j, leap in enumerate(leaps_by_hand(plain, name), start=1):
                    self.check(plain, name, j, leap)

    def test_one_leaf(self):
        for levels in (0, 1, 70):
            self.check(chain("a", levels), "a", 1, 0)

    def test_one_group(self):
        for j in range(1, 6):
            self.check(((1, 2, 3, 4, 5), tuple("abcde")), "c", j, 0)

    def test_groups_of_one_part(self):
        for name in "ae":
            for j in (1, 2):
                leap = leaps_by_hand(THREE, name)[j - 1]
                self.check(chain(THREE, 3), name, j, leap)
                self.check(((j,), (THREE,)), name, 1, leap)

    def test_ends_below_and_above_all_others(self):
        # The worth of a itself is the end, as soon as no other one is in its way.
        plain = ((1,), ("a", ((3,), ("b", "c", "d"))))
        self.check(plain, "a", 1, 2)
        self.check(((2,), ("a", ((1,), ("b", "c", "d")))), "a", 1, 2)
        self.assertEqual([leaps_by_hand(plain, name) for name in "ab"], [[2], [0]])

    def test_arguments(self):
        tree = built(EXAMPLE)
        self.assertEqual(leap_of(j=2, name="d", tree=tree), 1)
        self.assertEqual((leap_of(tree, "d"), leap_of(tree, "d", 2)), (leap_of(tree, "d", 1), 1))
        self.assertEqual(leap_lots(j=2, name="d", tree=tree), leap_lots(tree, "d", 2))
        self.assertEqual(leap_lots(tree, "d"), leap_lots(tree, "d", 1))


class Wrong(Asking):
    def test_trees_come_first(self):
        for value in no_trees():
            for call in BOTH:
                self.raises(InvalidTree, value, call, value, "a")
                self.raises(InvalidTree, value, call, value, "A", 0)
                self.raises(InvalidTree, value, call, tree=value, name="neither one", j="nor")
                self.raises(InvalidTree, value, call, value, "x", 0)

    def test_then_names(self):
        for tree in (built(EXAMPLE), Leaf("a")):
            for value in no_names():
                for call in BOTH:
                    self.raises(InvalidName, value, call, tree, value)
                    self.raises(InvalidName, value, call, tree, value, 0)
                    self.raises(InvalidName, value, call, tree, name=value, j="neither")

    def test_then_leaves(self):
        for call in BOTH:
            for name in ("f", "aa", "abcdefgh"):
                self.raises(Unknown, name, call, built(EXAMPLE), name)
                self.raises(Unknown, name, call, built(EXAMPLE), name, 0)
                self.raises(Unknown, name, call, Leaf("a"), name, "neither")

    def test_then_ends(self):
        for call in BOTH:
            for j in (0, 3, -1, -2, HUGE, -HUGE):
                self.raises(InvalidNumber, j, call, built(EXAMPLE), "a", j)
                self.raises(InvalidNumber, j, call, built(EXAMPLE), "d", j=j)
            for value in no_numbers() + [0, 2]:
                self.raises(InvalidNumber, value, call, Leaf("a"), "a", value)
            for value in no_numbers():
                self.raises(InvalidNumber, value, call, built(EXAMPLE), "e", value)


class Staying(Asking):
    def test_nothing_changes(self):
        tree = built(nine_tree())
        lesser, greater = leap_lots(tree, "e")
        kept = (lesser.pairs(), greater.pairs())
        self.assertEqual(leap_lots(built(nine_tree()), "e"), (lesser, greater))
        lesser["a"] = -HUGE
        self.assertEqual(greater.pairs(), kept[1])
        greater.drop("b")
        lesser["x"] = 1
        again = leap_lots(tree, "e")
        self.assertEqual((again[0].pairs(), again[1].pairs()), kept)
        self.assertEqual(plain_of(tree), nine_tree())


class Limits(Checks, InTime):
    def names(self):
        return full_names()[:24]

    def test_two_levels(self):
        names = self.names()
        for inner, ranks in (((1, 2, 3, 5, 8), (1, 2, 5, 8, 9, 10, 14, 15)), ((4,), (1, 2, 3)), ((2, 7), (1, 3, 4, 6)),
                             ((1, 2, 3, 4, 5, 6, 7, 8), (1, 4, 8, 11, 12, 17, 20, 24)),
                             ((1, 3, 4, 6, 8), (2, 3, 4, 7, 8, 9, 11, 13))):
            plain = (ranks, tuple((inner, tuple(names[at:at + 8])) for at in (0, 8, 16)))
            for j in range(1, len(ranks) + 1):
                self.check(plain, names[3], j, leap_by_sizes(ranks, inner, (8, 8, 8), j))

    def test_groups_of_four(self):
        names, ranks, inner = self.names(), (1, 4, 5, 6, 9, 10, 11, 12), (2, 3)
        plain = (ranks, tuple((inner, tuple(names[at:at + 4])) for at in range(0, 24, 4)))
        for j in range(1, 9):
            self.check(plain, names[1], j, leap_by_sizes(ranks, inner, (4,) * 6, j))

    def test_seventy_levels_and_two_hundred_nodes(self):
        names, ranks, inner = self.names(), (1, 2, 5, 8, 9, 10, 14, 15), (1, 2, 3, 5, 8)
        leaves = [chain(name, 5 if at < 13 else 4) for at, name in enumerate(names)]
        plain = chain((ranks, tuple((inner, tuple(leaves[at:at + 8])) for at in (0, 8, 16))), 63)
        self.assertEqual((len(plain_names(plain)), len(plain_nodes(plain)), plain_levels(plain), plain_width(plain)),
                         (24, 200, 70, 8))
        for j in range(1, 9):
            self.check(plain, names[3], j, leap_by_sizes(ranks, inner, (8, 8, 8), j))

    def test_mirrors_leap_as_far(self):
        names = self.names()
        rows = [((1, 2, 4), tuple(names[at:at + 4])) for at in range(0, 24, 4)]
        halves = [((1, 2, 3, 4, 6, 7, 8, 9), tuple(rows[at:at + 3])) for at in (0, 3)]
        plain = ((1, 3, 5, 8, 9, 12, 15, 16), tuple(halves))
        tree = built(plain)
        for j in range(1, 9):
            leap = leap_of(tree, names[5], j)
            self.check_lots(plain, tree, names[5], j, leap)
            self.assertEqual(leap_of(tree.mirror(), names[5], 9 - j), leap)
            self.assertEqual(leap_of(tree, names[20], j), leap)

    def test_middles_of_middles(self):
        # Of each of the seven other groups of three, high or low, one leaf has no say and may be between.
        names = self.names()
        plain = ((4,), tuple(((2,), tuple(names[at:at + 3])) for at in range(0, 24, 3)))
        self.assertEqual(leap_by_sizes((4,), (2,), (3,) * 8, 1), 7)
        self.check(plain, names[0], 1, 7)


if __name__ == "__main__":
    unittest.main()
