"""Promise [50], and [1] to [3] as far as they bear on chances."""

import unittest
from fractions import Fraction
from itertools import permutations
from math import comb, factorial, gcd

from asks import Asking, InTime
from plain import (built, chain, full_names, full_tree, nine_tree, no_numbers, no_trees, plain_ends, plain_names,
                   plain_of, plain_passes, plain_width, some_trees, subsets)
from rankpicks.chances import mean_rank, order_counts, set_counts
from rankpicks.counts import greatest_rank, least_rank
from rankpicks.errors import InvalidNumber, InvalidTree
from rankpicks.trees import Group, Leaf

HUGE = 10 ** 40 - 1
ALL = (set_counts, order_counts, mean_rank)
EXAMPLE = ((1, 3), (((2,), ("a", "b", "c")), "d", "e"))
THREE = ((2, 3), (((1, 2, 4), ("a", "b", "c", "d")), "e"))


def sets_by_hand(plain):
    """For each end, the number of sets of each size of which so many ends are low."""
    names = plain_names(plain)
    found = [[0] * (len(names) + 1) for _ in range(plain_width(plain))]
    for low in subsets(names):
        for j in range(plain_passes(plain, low)):
            found[j][len(low)] += 1
    return found


def orders_by_hand(plain):
    """For each end, the number of orders in which it has each rank."""
    names = plain_names(plain)
    found = [[0] * len(names) for _ in range(plain_width(plain))]
    for order in permutations(names):
        for counts, rank in zip(found, plain_ends(plain, {name: at for at, name in enumerate(order)})):
            counts[rank] += 1
    return found


def mean_by_hand(counts):
    return Fraction(sum(rank * many for rank, many in enumerate(counts, start=1)), sum(counts))


class Chances(Asking):
    def are_numbers(self, found, kind):
        self.assertIs(type(found), kind)
        self.assertTrue(all(type(number) is int for number in found))

    def test_the_example(self):
        tree = built(EXAMPLE)
        self.assertEqual([set_counts(tree), order_counts(tree, 2), mean_rank(tree)],
                         [[0, 2, 10, 10, 5, 1], [0, 0, 0, 72, 48], (8, 5)])

    def test_sets_over_all_sets(self):
        for plain in some_trees() + [nine_tree()]:
            tree = built(plain)
            for j, counts in enumerate(sets_by_hand(plain), start=1):
                self.assertEqual(set_counts(tree, j), counts, (plain, j))
                self.are_numbers(set_counts(tree, j), list)

    def test_orders_and_means_over_all_orders(self):
        for plain in some_trees():
            tree = built(plain)
            for j, counts in enumerate(orders_by_hand(plain), start=1):
                self.assertEqual(order_counts(tree, j), counts, (plain, j))
                self.are_numbers(order_counts(tree, j), list)
                mean = mean_by_hand(counts)
                self.assertEqual(mean_rank(tree, j), (mean.numerator, mean.denominator), (plain, j))
                self.are_numbers(mean_rank(tree, j), tuple)

    def test_one_leaf(self):
        for levels in (0, 1, 70):
            tree = built(chain("a", levels))
            self.assertEqual([call(tree) for call in ALL], [[0, 1], [1], (1, 1)])

    def test_one_group(self):
        for size in range(1, 9):
            tree = Group(list(range(1, size + 1)), [Leaf("abcdefgh"[at]) for at in range(size)])
            for j in range(1, size + 1):
                self.assertEqual(set_counts(tree, j), [comb(size, s) if s >= j else 0 for s in range(size + 1)])
                self.assertEqual(order_counts(tree, j), [factorial(size) * (r == j) for r in range(1, size + 1)])
                self.assertEqual(mean_rank(tree, j), (j, 1))

    def test_groups_of_one_part(self):
        for j in (1, 2):
            for call in ALL:
                self.assertEqual(call(built(chain(THREE, 5)), j), call(built(THREE), j))
                self.assertEqual(call(built(((2,), (THREE,)))), call(built(THREE), 2))

    def test_means_in_lowest_terms(self):
        for plain in some_trees():
            for j in range(1, plain_width(plain) + 1):
                over, under = mean_rank(built(plain), j)
                self.assertGreaterEqual(under, 1)
                self.assertEqual(gcd(over, under), 1)
        self.assertEqual(mean_rank(built(nine_tree())), (5, 1))

    def test_arguments(self):
        tree = built(THREE)
        for call in ALL:
            self.assertEqual(call(tree), call(tree, 1))
            self.assertEqual(call(j=2, tree=tree), call(tree, 2))
            self.assertNotEqual(call(tree), call(tree, 2))


class Wrong(Asking):
    def test_trees_come_first(self):
        for value in no_trees():
            for call in ALL:
                self.raises(InvalidTree, value, call, value)
                self.raises(InvalidTree, value, call, value, 0)
                self.raises(InvalidTree, value, call, tree=value, j="neither")

    def test_then_ends(self):
        for call in ALL:
            for j in (0, 3, -1, -2, HUGE, -HUGE):
                self.raises(InvalidNumber, j, call, built(THREE), j)
            for j in (0, 2, -1):
                self.raises(InvalidNumber, j, call, Leaf("a"), j=j)
            for value in no_numbers():
                self.raises(InvalidNumber, value, call, built(THREE), value)
                self.raises(InvalidNumber, value, call, Leaf("a"), value)


class Staying(Asking):
    def test_nothing_changes(self):
        tree = built(THREE)
        for j in (1, 2):
            kept = [call(built(THREE), j) for call in ALL]
            found = [call(tree, j) for call in ALL]
            self.assertEqual(found, kept)
            for counts in found[:2]:
                counts[0] += 1
                counts.reverse()
                counts.append(0)
            self.assertEqual([call(tree, j) for call in ALL], kept)
        self.assertEqual(plain_of(tree), THREE)


class Limits(InTime):
    def sets_of_a_full_tree(self):
        """By size and low ends of the eight groups of five, from which the ranks 1, 3 and 5 pass."""
        sets = {(0, 0): 1}
        for _ in range(8):
            more = {}
            for (size, ends), many in sets.items():
                for low in range(6):
                    key = (size + low, ends + (low >= 1) + (low >= 3) + (low >= 5))
                    more[key] = more.get(key, 0) + many * comb(5, low)
            sets = more
        return sets

    def test_a_full_tree(self):
        tree, sets = built(full_tree()), self.sets_of_a_full_tree()
        for j in range(1, 21):
            counts = [0] * 41
            for (size, ends), many in sets.items():
                counts[size] += many if ends >= j + 2 else 0
            self.assertEqual(set_counts(tree, j), counts)
            orders = [counts[r] * factorial(r) * factorial(40 - r) - counts[r - 1] * factorial(r - 1)
                      * factorial(41 - r) for r in range(1, 41)]
            self.assertEqual(order_counts(tree, j), orders)
            self.assertEqual(sum(order_counts(tree, j)), factorial(40))
            reached = [rank for rank, many in enumerate(orders, start=1) if many > 0]
            self.assertEqual(reached, list(range(least_rank(tree, j), greatest_rank(tree, j) + 1)))
            mean = mean_by_hand(orders)
            self.assertEqual(mean_rank(tree, j), (mean.numerator, mean.denominator))

    def test_wide_trees(self):
        names = full_names()
        flat = Group(list(range(11, 31)), [Leaf(name) for name in names])
        halves = [Group(list(range(1, 21)), [Leaf(name) for name in half]) for half in (names[:20], names[20:])]
        for tree in (flat, Group(list(range(11, 31)), halves)):
            for j in (1, 7, 20):
                self.assertEqual(set_counts(tree, j), [comb(40, s) if s >= j + 10 else 0 for s in range(41)])
                self.assertEqual(mean_rank(tree, j), (j + 10, 1))


if __name__ == "__main__":
    unittest.main()
