"""Promises [40] and [41], and [1] to [3] as far as they bear on places."""

import unittest
from itertools import permutations, product

from asks import Asking, InTime
from plain import (built, chain, full_names, full_tree, nine_tree, no_lots, no_numbers, no_trees, plain_ends,
                   plain_names, plain_of, plain_width, some_trees)
from rankpicks.counts import count_table, greatest_rank, least_rank
from rankpicks.errors import InvalidLot, InvalidNumber, InvalidTree, Lacking
from rankpicks.lots import Lot, end_of, lot_of
from rankpicks.places import order_at, rank_in, rank_span
from rankpicks.trees import Group, Leaf

HUGE = 10 ** 40 - 1
THREE = ((2, 3), (((1, 2, 4), ("a", "b", "c", "d")), "e"))


def example_lot():
    return Lot([("a", 7), ("b", -1), ("c", 4), ("d", 4), ("e", 9)])


def ranks_by_orders(plain):
    """For each end, the set of the ranks that it has, over all orders of the leaves."""
    found = [set() for _ in range(plain_width(plain))]
    for names in permutations(plain_names(plain)):
        for ranks, rank in zip(found, plain_ends(plain, {name: at for at, name in enumerate(names, start=1)})):
            ranks.add(rank)
    return found


class Spans(Asking):
    def test_the_example(self):
        three = built(THREE)
        self.assertEqual([rank_span(built(nine_tree())), order_at(built(nine_tree()), 3), count_table(three)[:2],
                          rank_span(three, 1), rank_span(three, 2)],
                         [(4, 6), None, [[0, 2, 3], [0, 1, 2, 4]], (2, 2), (3, 4)])

    def test_over_all_orders(self):
        for plain in some_trees():
            tree = built(plain)
            for j, ranks in enumerate(ranks_by_orders(plain), start=1):
                span = rank_span(tree, j)
                self.assertIs(type(span), tuple)
                self.assertEqual(span, (least_rank(tree, j), greatest_rank(tree, j)))
                self.assertEqual(sorted(ranks), list(range(span[0], span[1] + 1)))

    def test_arguments(self):
        tree = built(THREE)
        self.assertEqual([rank_span(tree), rank_span(j=2, tree=tree), rank_span(Leaf("a"))], [(2, 2), (3, 4), (1, 1)])


class Orders(Asking):
    def check(self, plain, tree, rank, j, reached):
        found = order_at(tree, rank, j)
        if not reached:
            self.assertIsNone(found, (plain, rank, j))
            return
        self.assertIs(type(found), list)
        self.assertEqual(sorted(found), sorted(plain_names(plain)), (plain, rank, j))
        worths = {name: at for at, name in enumerate(found, start=1)}
        self.assertEqual(plain_ends(plain, worths)[j - 1], rank, (plain, rank, j))

    def test_every_rank_over_all_orders(self):
        for plain in some_trees():
            tree = built(plain)
            for j, ranks in enumerate(ranks_by_orders(plain), start=1):
                for rank in range(1, len(tree) + 1):
                    self.check(plain, tree, rank, j, rank in ranks)

    def test_nine_leaves(self):
        for rank in range(1, 10):
            self.check(nine_tree(), built(nine_tree()), rank, 1, rank in (4, 5, 6))

    def test_many_ends_within_many_ends(self):
        rows = tuple(((1, 3), tuple(row)) for row in ("abc", "fed", "ghi"))
        plain = ((1, 3, 4), rows)
        tree = built(plain)
        for j in (1, 2, 3):
            least, greatest = rank_span(tree, j)
            self.assertLess(least, greatest + (j == 1))
            for rank in range(1, 10):
                self.check(plain, tree, rank, j, least <= rank <= greatest)

    def test_one_leaf(self):
        for levels in (0, 1, 70):
            self.assertEqual(order_at(built(chain("abc", levels)), 1), ["abc"])

    def test_arguments(self):
        tree = built(THREE)
        self.assertEqual(order_at(j=2, rank=3, tree=tree), order_at(tree, 3, 2))
        self.assertEqual(order_at(tree, 2), order_at(tree, 2, 1))
        self.assertIsNone(order_at(tree, 2, 2))
        self.assertEqual(end_of(tree, lot_of(order_at(tree, 4, 2)), 2), 4)


class Ranks(Asking):
    def check(self, plain, tree, worths):
        lot = Lot(list(worths.items()))
        for j, end in enumerate(plain_ends(plain, worths), start=1):
            lesser = len([worth for worth in worths.values() if worth < end])
            greater = len([worth for worth in worths.values() if worth > end])
            found = rank_in(tree, lot, j)
            self.assertIs(type(found), tuple)
            self.assertEqual(found, (lesser + 1, len(worths) - greater))
            least, greatest = rank_span(tree, j)
            self.assertTrue(found[1] >= least and found[0] <= greatest)

    def test_different_worths_over_all_orders(self):
        for plain in some_trees()[::3]:
            tree = built(plain)
            for worths in permutations((-HUGE, -3, 0, 8, HUGE)[:len(tree)]):
                self.check(plain, tree, dict(zip(tree.names(), worths)))

    def test_equal_worths(self):
        for plain in some_trees()[::5]:
            tree = built(plain)
            for worths in product((5, -1, 3), repeat=min(len(tree), 4)):
                by_name = dict(zip(tree.names(), worths + (3,)))
                self.check(plain, tree, by_name)
        for worth in (0, -7, HUGE):
            self.assertEqual(rank_in(built(THREE), Lot([(name, worth) for name in "abcde"]), 2), (1, 5))

    def test_an_example(self):
        tree = built(THREE)
        # The group of four passes -1, 4 and 7 up; with 9, that makes the ends 4 and 7.
        self.assertEqual([rank_in(tree, example_lot()), rank_in(j=2, lot=example_lot(), tree=tree)], [(2, 3), (4, 4)])
        self.assertEqual(rank_in(tree, example_lot(), 1), (2, 3))
        self.assertEqual(rank_in(Leaf("b"), example_lot()), (1, 1))

    def test_long_worths(self):
        lot = Lot([("a", HUGE), ("b", -HUGE), ("c", HUGE - 1), ("d", 1 - HUGE), ("e", 1 - HUGE)])
        self.assertEqual([rank_in(built(THREE), lot), rank_in(built(THREE), lot, 2)], [(2, 3), (2, 3)])

    def test_names_that_the_tree_lacks(self):
        lot = example_lot()
        for at, worth in enumerate((-100, 4, 4, 5, 7, 100)):
            lot["x" + "abcdef"[at]] = worth
        self.assertEqual([rank_in(built(THREE), lot), rank_in(built(THREE), lot, 2)], [(2, 3), (4, 4)])


class Wrong(Asking):
    def test_trees_come_first(self):
        for value in no_trees():
            self.raises(InvalidTree, value, rank_span, value)
            self.raises(InvalidTree, value, rank_span, tree=value, j="neither")
            self.raises(InvalidTree, value, order_at, value, 1)
            self.raises(InvalidTree, value, order_at, value, 0, 0)
            self.raises(InvalidTree, value, order_at, tree=value, rank="neither", j="nor")
            self.raises(InvalidTree, value, rank_in, value, example_lot())
            self.raises(InvalidTree, value, rank_in, tree=value, lot="neither", j="nor")
            self.raises(InvalidTree, value, rank_in, value, Lot(), 0)

    def test_ends_of_spans(self):
        for j in (0, 3, -1, HUGE, -HUGE):
            self.raises(InvalidNumber, j, rank_span, built(THREE), j)
        for value in no_numbers() + [2]:
            self.raises(InvalidNumber, value, rank_span, Leaf("a"), j=value)

    def test_ranks_come_before_ends(self):
        tree = built(THREE)
        for rank in (0, 6, -1, -5, HUGE, -HUGE):
            self.raises(InvalidNumber, rank, order_at, tree, rank)
            self.raises(InvalidNumber, rank, order_at, tree, rank, HUGE + 1)
            self.raises(InvalidNumber, rank, order_at, tree, rank=rank, j="neither")
        self.raises(InvalidNumber, 2, order_at, Leaf("a"), 2)
        for value in no_numbers():
            self.raises(InvalidNumber, value, order_at, tree, value)
            self.raises(InvalidNumber, value, order_at, tree, value, "neither")
            self.raises(InvalidNumber, value, order_at, Leaf("a"), value, 1)

    def test_ends_of_orders(self):
        tree = built(THREE)
        for rank in (1, 2, 3, 4, 5):
            for j in (0, 3, 4, 5, -1, HUGE, -HUGE):
                self.raises(InvalidNumber, j, order_at, tree, rank, j)
            for value in no_numbers():
                self.raises(InvalidNumber, value, order_at, tree, rank, j=value)

    def test_lots_then_ends_then_names(self):
        tree = built(THREE)
        for value in no_lots():
            self.raises(InvalidLot, value, rank_in, tree, value)
            self.raises(InvalidLot, value, rank_in, tree, value, "neither")
            self.raises(InvalidLot, value, rank_in, tree, value, 3)
        for j in (0, 3, -1, HUGE, -HUGE):
            self.raises(InvalidNumber, j, rank_in, tree, example_lot(), j)
            self.raises(InvalidNumber, j, rank_in, tree, Lot(), j=j)
        for value in no_numbers():
            self.raises(InvalidNumber, value, rank_in, tree, example_lot(), value)
            self.raises(InvalidNumber, value, rank_in, tree, Lot(), value)
        for first, lot in (("a", Lot()), ("a", Lot([("b", 1), ("x", 1)])), ("c", Lot([("b", 2), ("a", 1)])),
                           ("e", Lot([(name, 1) for name in "dcba"]))):
            kept = lot.pairs()
            with self.assertRaises(Lacking) as caught:
                rank_in(tree, lot, 2)
            self.assertIs(type(caught.exception), Lacking)
            self.assertEqual(caught.exception.which, first)
            self.assertEqual(lot.pairs(), kept)


class Staying(Asking):
    def test_nothing_changes(self):
        tree, lot = built(THREE), example_lot()
        for rank, j in product((1, 2, 3, 4, 5), (1, 2)):
            found = order_at(tree, rank, j)
            kept = order_at(built(THREE), rank, j)
            self.assertEqual(found, kept)
            if found is not None:
                found.reverse()
                found.append("x")
            self.assertEqual(order_at(tree, rank, j), kept)
        rank_in(tree, lot, 2)
        self.assertEqual((plain_of(tree), lot), (THREE, example_lot()))
        lot["a"] = -5
        self.assertEqual([rank_in(tree, lot), rank_in(tree, lot, 2)], [(2, 2), (3, 4)])


class Limits(InTime):
    def test_a_full_tree(self):
        plain, names = full_tree(), full_names()
        tree = built(plain)
        for j in (1, 2, 9, 10, 19, 20):
            least, greatest = rank_span(tree, j)
            self.assertTrue(1 <= least < greatest <= 40)
            for rank in range(1, 41):
                found = order_at(tree, rank, j)
                if least <= rank <= greatest:
                    self.assertEqual(sorted(found), names)
                    worths = {name: at for at, name in enumerate(found, start=1)}
                    self.assertEqual(plain_ends(plain, worths)[j - 1], rank)
                else:
                    self.assertIsNone(found)

    def test_ranks_in_a_full_tree(self):
        plain, names = full_tree(), full_names()
        tree = built(plain)
        worths = {name: (-1) ** at * (HUGE - at // 7) for at, name in enumerate(names)}
        lot = Lot(list(worths.items()) + [("beside" + letter, 0) for letter in "abcdefghijklmnopqrst"])
        for j, end in enumerate(plain_ends(plain, worths), start=1):
            ascending = sorted(worths.values())
            first = ascending.index(end) + 1
            self.assertEqual(rank_in(tree, lot, j), (first, first + ascending.count(end) - 1))


if __name__ == "__main__":
    unittest.main()
