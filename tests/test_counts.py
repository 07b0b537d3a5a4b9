"""Promises [30] and [31], and [1] to [3] as far as they bear on counts."""

import unittest
from itertools import product
from random import Random

from asks import Asking, InTime
from plain import (built, chain, full_names, full_tree, nine_tree, no_numbers, no_trees, plain_nodes, plain_names,
                   plain_of, plain_passes, plain_width, small_trees, some_trees, subsets, values)
from rankpicks.counts import count_table, greatest_rank, high_names, is_count_table, least_rank, low_names
from rankpicks.errors import InvalidNumber, InvalidTree
from rankpicks.trees import Group, Leaf

HUGE = 10 ** 40 - 1
OF_ENDS = (least_rank, greatest_rank, low_names, high_names)
THREE = ((2, 3), (((1, 2, 4), ("a", "b", "c", "d")), "e"))


def least_by_sets(plain, j):
    return min(len(low) for low in subsets(plain_names(plain)) if plain_passes(plain, low) >= j)


def greatest_by_sets(plain, j):
    return 1 + max(len(low) for low in subsets(plain_names(plain)) if plain_passes(plain, low) < j)


def sums_by_place(rows):
    """The least sum of one number from each row for each sum of their places, over all choices of places."""
    found = {}
    for places in product(*[range(len(row)) for row in rows]):
        total = sum(row[place] for row, place in zip(rows, places))
        found[sum(places)] = min(total, found.get(sum(places), total))
    return found


def least_sum(sums, rank):
    return min(least for place, least in sums.items() if place >= rank)


def plain_table(plain):
    """The table of counts, over all choices of places."""
    if isinstance(plain, str):
        return [[0, 1]]
    within = [plain_table(part) for part in plain[1]]
    sums = sums_by_place([table[0] for table in within])
    return [[0] + [least_sum(sums, rank) for rank in plain[0]]] + [row for table in within for row in table]


def is_plain_claim(plain, rows):
    """Whether rows of whole numbers of the right lengths are a claim, over all choices of places."""
    if rows[0][0] != 0:
        return False
    if isinstance(plain, str):
        return rows[0][1] <= 1
    at, firsts = 1, []
    for part in plain[1]:
        size = len(plain_nodes(part))
        if not is_plain_claim(part, rows[at:at + size]):
            return False
        firsts.append(rows[at])
        at += size
    sums = sums_by_place(firsts)
    return all(number <= least_sum(sums, rank) for number, rank in zip(rows[0][1:], plain[0]))


def ends(plain):
    return range(1, plain_width(plain) + 1)


class Ranks(Asking):
    def check(self, plain, least, greatest, j):
        tree, names = built(plain), plain_names(plain)
        self.assertEqual((least_rank(tree, j), greatest_rank(tree, j)), (least, greatest))
        low, high = low_names(tree, j), high_names(tree, j)
        for found, many in ((low, least), (high, len(names) - greatest + 1)):
            self.assertIs(type(found), list)
            self.assertEqual((found, len(found)), (sorted(set(found)), many))
            self.assertLessEqual(set(found), set(names))
        self.assertGreaterEqual(plain_passes(plain, low), j)
        self.assertLess(plain_passes(plain, [name for name in names if name not in high]), j)

    def test_over_all_sets_of_low_leaves(self):
        for plain in some_trees():
            for j in ends(plain):
                self.check(plain, least_by_sets(plain, j), greatest_by_sets(plain, j), j)

    def test_nine_leaves(self):
        self.check(nine_tree(), 4, 6, 1)
        self.assertEqual(least_by_sets(nine_tree(), 1), 4)

    def test_one_leaf(self):
        self.check("a", 1, 1, 1)
        self.assertEqual([low_names(Leaf("a")), high_names(Leaf("a"))], [["a"], ["a"]])

    def test_groups_of_one_part(self):
        for levels in (1, 5, 70):
            self.check(chain("b", levels), 1, 1, 1)
        for j in (1, 2):
            self.check(chain(THREE, 4), least_by_sets(THREE, j), greatest_by_sets(THREE, j), j)
        self.check(((2,), (THREE,)), 3, 4, 1)

    def test_several_ranks_in_groups_within_groups(self):
        pairs = tuple(((1, 3), tuple(row)) for row in ("abc", "def", "ghi"))
        plain = ((2, 3, 5), pairs)
        for j in (1, 2, 3):
            self.check(plain, least_by_sets(plain, j), greatest_by_sets(plain, j), j)

    def test_the_first_end_is_meant_if_none_is_named(self):
        tree = built(THREE)
        for call in OF_ENDS:
            self.assertEqual(call(tree), call(tree, 1))
            self.assertEqual(call(j=2, tree=tree), call(tree, 2))
            self.assertNotEqual(call(tree), call(tree, 2))

    def test_names_ascend_where_leaves_do_not(self):
        tree = Group([2], [Leaf("c"), Leaf("b"), Leaf("aa")])
        self.assertEqual([len(low_names(tree)), len(high_names(tree))], [2, 2])
        self.assertEqual(low_names(Group([3], [tree, Leaf("z"), Leaf("a")]))[0], "a")
        self.assertEqual(low_names(Group([3], [Leaf("c"), Leaf("b"), Leaf("aa")])), ["aa", "b", "c"])
        self.assertEqual(high_names(Group([1], [Leaf("c"), Leaf("b"), Leaf("aa")])), ["aa", "b", "c"])


class Tables(Asking):
    def test_the_example(self):
        self.assertEqual(count_table(built(THREE))[:2], [[0, 2, 3], [0, 1, 2, 4]])
        self.assertEqual(count_table(built(THREE)), [[0, 2, 3], [0, 1, 2, 4]] + [[0, 1]] * 5)
        self.assertEqual(count_table(tree=Leaf("a")), [[0, 1]])

    def test_over_all_sets_and_over_all_choices_of_places(self):
        for plain in some_trees():
            table = [[0] + [least_by_sets(node, j) for j in ends(node)] for node in plain_nodes(plain)]
            self.assertEqual(count_table(built(plain)), table)
            self.assertEqual(plain_table(plain), table)
            self.assertIs(is_count_table(built(plain), table), True)
            self.assertTrue(is_plain_claim(plain, table))

    def test_rows_are_of_their_own(self):
        tree = Group([1], [Group([1], [Group([1], [Leaf("a")])]), Leaf("b")])
        found = count_table(tree)
        self.assertEqual(len({id(row) for row in found}), 5)
        for row in found:
            row.append("x")
        found.clear()
        self.assertEqual(count_table(tree), [[0, 1]] * 5)


class Claims(Asking):
    def compare(self, plain, claim):
        found = is_count_table(built(plain), claim)
        self.assertIs(found, is_plain_claim(plain, claim), (plain, claim))
        if found:
            for row, greatest in zip(claim, plain_table(plain)):
                self.assertTrue(all(number <= most for number, most in zip(row, greatest)), (plain, claim))
        return found

    def test_all_claims_for_small_trees(self):
        told = {True: 0, False: 0}
        for plain in small_trees(3):
            table = plain_table(plain)
            free = [(at, k) for at, row in enumerate(table) for k in range(1, len(row))]
            if len(free) <= 5:
                for numbers in product((-1, 0, 1, 2, 3), repeat=len(free)):
                    claim = [list(row) for row in table]
                    for (at, k), number in zip(free, numbers):
                        claim[at][k] = number
                    told[self.compare(plain, claim)] += 1
        self.assertGreater(min(told.values()), 1000)

    def test_one_number_more_or_less(self):
        for plain in some_trees()[::3]:
            table = plain_table(plain)
            for at, row in enumerate(table):
                for k in range(len(row)):
                    for other in (row[k] + 1, row[k] - 1, -1, -HUGE, HUGE):
                        claim = [list(line) for line in table]
                        claim[at][k] = other
                        self.compare(plain, claim)

    def test_one_number_more_is_always_too_much(self):
        for plain in some_trees():
            table = plain_table(plain)
            for at, row in enumerate(table):
                for k in range(len(row)):
                    claim = [list(line) for line in table]
                    claim[at][k] += 1
                    self.assertIs(is_count_table(built(plain), claim), False)

    def test_lesser_numbers(self):
        for plain in some_trees()[::5]:
            claim = [[0] + [-1] * (len(row) - 1) for row in plain_table(plain)]
            claim[0] = [0] + [-7 * len(claim)] * plain_width(plain)
            self.assertEqual(is_count_table(built(plain), claim), is_plain_claim(plain, claim))
        tree = built(THREE)
        for rows in ([[0, 2, 2], [0, 1, 2, 4]], [[0, 1, 3], [0, 1, 2, 4]], [[0, 2, 3], [0, 1, 2, 3]],
                     [[0, 0, 0], [0, 0, 0, 0]], [[0, -5, 3], [0, 1, 2, 4]], [[0, 1, 2], [0, 1, 1, 4]],
                     [[0, -HUGE, -HUGE], [0, 1, 2, -HUGE + 1]]):
            self.assertIs(is_count_table(tree, rows + [[0, 1]] * 5), True, rows)

    def test_numbers_that_fall_from_place_to_place(self):
        tree = built(THREE)
        # With 0 for three ends of the group, nothing above 0 holds for two or three ends of the whole.
        for rows, told in (([[0, 0, 1], [0, 1, 2, 0]], False), ([[0, 1, 0], [0, 1, 2, 0]], False),
                           ([[0, 0, 0], [0, 1, 2, 0]], True), ([[0, 0, 0], [0, 1, -1, 0]], False),
                           ([[0, -1, 0], [0, 1, -1, 0]], True), ([[0, -1, -1], [0, 1, -1, -1]], True),
                           ([[0, 1, 0], [0, 1, 1, 0]], False)):
            self.assertIs(is_count_table(tree, rows + [[0, 1]] * 5), told, rows)

    def test_random_claims(self):
        chance, told = Random(6), {True: 0, False: 0}
        trees = some_trees()
        for _ in range(6000):
            plain = chance.choice(trees)
            claim = plain_table(plain)
            for _ in range(chance.randrange(1, 5)):
                row = chance.choice(claim)
                row[chance.randrange(1, len(row))] -= chance.randrange(3)
            claim[0][chance.randrange(1, len(claim[0]))] += chance.randrange(2)
            told[self.compare(plain, claim)] += 1
        self.assertGreater(min(told.values()), 300)

    def test_lists_that_are_too_short_or_too_long(self):
        for plain in (THREE, "a", nine_tree(), chain("a", 2), ((1, 2), ("a", "b"))):
            tree, table = built(plain), plain_table(plain)
            for at, row in enumerate(table):
                for other in ([], row[:-1], row + [0], row + [-1], row[:1], row + row):
                    if len(other) != len(row):
                        self.assertIs(is_count_table(tree, table[:at] + [other] + table[at + 1:]), False)
                self.assertIs(is_count_table(tree, table[:at] + table[at + 1:]), False)
                self.assertIs(is_count_table(tree, table[:at] + [row] + table[at:]), False)
            for claim in ([], table + [[0, 1]], table + [[]], table[:-1], table + table, [table]):
                self.assertIs(is_count_table(tree, claim), False)

    def test_values_in_place_of_numbers_and_lists(self):
        for plain in (THREE, "a", nine_tree()):
            tree, table = built(plain), plain_table(plain)
            self.assertIs(is_count_table(tree, tuple(table)), False)
            self.assertIs(is_count_table(tree, [tuple(row) for row in table]), False)
            for at, row in enumerate(table):
                self.assertIs(is_count_table(tree, table[:at] + [tuple(row)] + table[at + 1:]), False)
                for value in values():
                    claim = table[:at] + [value] + table[at + 1:]
                    self.assertIs(is_count_table(tree, claim), False)
                for k, number in enumerate(row):
                    for value in no_numbers():
                        claim = [list(line) for line in table]
                        claim[at][k] = value
                        self.assertIs(is_count_table(tree, claim), False, (at, k, value))

    def test_true_is_not_1_and_false_is_not_0(self):
        self.assertIs(is_count_table(Leaf("a"), [[0, 1]]), True)
        for claim in ([[0, True]], [[False, 1]], [[0, False]], [[False, True]]):
            self.assertIs(is_count_table(Leaf("a"), claim), False)

    def test_the_first_number_is_0(self):
        for first in (1, -1, HUGE):
            self.assertIs(is_count_table(Leaf("a"), [[first, 1]]), False)
            self.assertIs(is_count_table(built(THREE), [[0, 0, 0], [first, 0, 0, 0]] + [[0, 1]] * 5), False)
            self.assertIs(is_count_table(built(THREE), [[first, 0, 0], [0, 0, 0, 0]] + [[0, 1]] * 5), False)

    def test_any_value(self):
        for value in values():
            for plain in ("a", THREE):
                self.assertIs(is_count_table(built(plain), value), False)
        self.assertIs(is_count_table(claim=[[0, 1]], tree=Leaf("a")), True)

    def test_the_claim_stays_as_it_is(self):
        claim = plain_table(THREE)
        is_count_table(built(THREE), claim)
        self.assertEqual(claim, plain_table(THREE))


class Wrong(Asking):
    def test_trees_come_first(self):
        for value in no_trees():
            for call in OF_ENDS:
                self.raises(InvalidTree, value, call, value)
                self.raises(InvalidTree, value, call, value, 0)
                self.raises(InvalidTree, value, call, tree=value, j="neither")
            self.raises(InvalidTree, value, count_table, value)
            self.raises(InvalidTree, value, is_count_table, value, [[0, 1]])
            self.raises(InvalidTree, value, is_count_table, value, None)

    def test_then_ends(self):
        tree = built(THREE)
        for call in OF_ENDS:
            for j in (0, 3, -1, -2, HUGE, -HUGE):
                self.raises(InvalidNumber, j, call, tree, j)
                self.raises(InvalidNumber, j, call, tree, j=j)
            for j in (0, 2, -1):
                self.raises(InvalidNumber, j, call, Leaf("a"), j)
            for value in no_numbers():
                self.raises(InvalidNumber, value, call, tree, value)
                self.raises(InvalidNumber, value, call, Leaf("a"), value)


class Staying(Asking):
    def test_nothing_changes(self):
        tree = built(THREE)
        for j in (1, 2):
            answers = [call(tree, j) for call in OF_ENDS]
            kept = [call(built(THREE), j) for call in OF_ENDS]
            self.assertEqual(answers, kept)
            answers[2].reverse()
            answers[2].append("x")
            answers[3].clear()
            self.assertEqual([call(tree, j) for call in OF_ENDS], kept)
        self.assertEqual(count_table(tree), plain_table(THREE))
        self.assertEqual(plain_of(tree), THREE)

    def test_lists_that_were_handed_in(self):
        ranks, parts = [2], [Leaf("a"), Leaf("b"), Leaf("c")]
        tree = Group(ranks, parts)
        ranks[0] = 1
        parts.pop()
        self.assertEqual((least_rank(tree), greatest_rank(tree), count_table(tree)[0]), (2, 2, [0, 2]))


class Limits(InTime):
    def test_a_full_tree(self):
        plain = full_tree()
        tree, names = built(plain), full_names()
        table = plain_table(plain)
        self.assertEqual(count_table(tree), table)
        self.assertIs(is_count_table(tree, table), True)
        mirrored = plain_table(plain_of(tree.mirror()))[0]
        for j in range(1, 21):
            self.assertEqual((least_rank(tree, j), greatest_rank(tree, j)), (table[0][j], 41 - mirrored[21 - j]))
            low, high = low_names(tree, j), high_names(tree, j)
            self.assertEqual((low, len(low)), (sorted(set(low)), table[0][j]))
            self.assertEqual((high, len(high)), (sorted(set(high)), mirrored[21 - j]))
            self.assertGreaterEqual(plain_passes(plain, low), j)
            self.assertLess(plain_passes(plain, [name for name in names if name not in high]), j)

    def test_claims_for_a_full_tree(self):
        tree, table = built(full_tree()), plain_table(full_tree())
        for at in (0, 1, 64, 65, 66, 120, 199):
            for k in range(len(table[at])):
                for less, told in ((-1, False), (HUGE, at == 0 and k > 0)):
                    claim = [list(row) for row in table]
                    claim[at][k] -= less
                    self.assertIs(is_count_table(tree, claim), told)

    def test_wide_trees(self):
        names = full_names()
        for ranks in ([1], [40], list(range(1, 21)), list(range(21, 41)), list(range(2, 41, 2))):
            tree = Group(ranks, [Leaf(name) for name in names])
            self.assertEqual(count_table(tree)[0], [0] + ranks)
            self.assertEqual([least_rank(tree, j) for j in range(1, len(ranks) + 1)], ranks)
            self.assertEqual([greatest_rank(tree, j) for j in range(1, len(ranks) + 1)], ranks)
            self.assertIs(is_count_table(tree, [[0] + ranks] + [[0, 1]] * 40), True)
            self.assertIs(is_count_table(tree, [[0] + ranks[:-1] + [41]] + [[0, 1]] * 40), False)
        halves = [Group(list(range(1, 21)), [Leaf(name) for name in half]) for half in (names[:20], names[20:])]
        tree = Group(list(range(11, 31)), halves)
        self.assertEqual(count_table(tree)[0], [0] + list(range(11, 31)))

    def test_long_claims(self):
        for claim in ([[0, 1]] * 300, [[0] * 300], [list(range(300))] * 300, [HUGE] * 300):
            self.assertIs(is_count_table(built(full_tree()), claim), False)
            self.assertIs(is_count_table(Leaf("a"), claim), False)


if __name__ == "__main__":
    unittest.main()
