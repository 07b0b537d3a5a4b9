"""Promises [100] and [101], and [1] to [3] as far as they bear on reports."""

import unittest
from itertools import combinations_with_replacement, product
from random import Random

from asks import Asking, InTime
from plain import (built, chain, full_names, full_tree, nine_tree, no_numbers, no_trees, plain_ends, plain_names,
                   plain_of, plain_passes, plain_trees, plain_width, small_trees, some_trees, subsets, values)
from rankpicks.errors import InvalidList, InvalidNumber, InvalidReport, InvalidTree
from rankpicks.lots import Lot
from rankpicks.reports import Report, few_lot, known_counts, kth, many_lot
from rankpicks.trees import Group, Leaf

HUGE = 10 ** 40 - 1
BOTH = (few_lot, many_lot)
ONE = ((1, 3), ("a", "b", "c", "d"))
OTHER = ((2,), ("e", "f", "g"))
THREE = ((2, 3), (((1, 2, 4), ("a", "b", "c", "d")), "e"))


def upto_by_sets(plain, told, worth):
    """The least and the greatest size of the sets with just as many low ends as told ends are at most the worth."""
    low = len([end for end in told if end <= worth])
    sizes = [len(names) for names in subsets(plain_names(plain)) if plain_passes(plain, names) == low]
    return min(sizes), max(sizes)


def lots_behind(plain, told, numbers):
    """The worths, in ascending order, of all lots of these numbers in which the tree has the told ends."""
    names = plain_names(plain)
    found = set()
    for worths in product(numbers, repeat=len(names)):
        if plain_ends(plain, dict(zip(names, worths))) == list(told):
            found.add(tuple(sorted(worths)))
    return found


def told_lists(width, numbers=(2, 4, 5)):
    return [list(told) for told in combinations_with_replacement(numbers, width)]


class Checks(Asking):
    def check_lots(self, plain, report, worth, few, many):
        for call, count in ((few_lot, few), (many_lot, many)):
            lot = call(report, worth)
            self.assertIs(type(lot), Lot)
            self.assertEqual(lot.names(), sorted(plain_names(plain)))
            self.assertEqual(plain_ends(plain, dict(lot.pairs())), report.told, (plain, report.told, worth))
            self.assertEqual(lot.upto(worth), count, (plain, report.told, worth))

    def check(self, plain, told, worth, few, many):
        report = Report(built(plain), told)
        found = report.upto(worth)
        self.assertIs(type(found), tuple)
        self.assertTrue(all(type(number) is int for number in found))
        self.assertEqual(found, (few, many), (plain, told, worth))
        self.check_lots(plain, report, worth, few, many)


class Reports(Checks):
    def test_properties(self):
        for plain in some_trees()[::20] + ["a", chain("a", 70), nine_tree()]:
            tree = built(plain)
            for told in ([0] * tree.width, list(range(-3, tree.width - 3)), [HUGE] * tree.width):
                report = Report(tree, told)
                self.assertIs(report.tree, tree)
                self.assertEqual(report.told, told)
                self.assertIs(type(report.told), list)
                self.assertEqual(Report(told=told, tree=tree).told, told)

    def test_over_all_sets_of_leaves(self):
        chance = Random(100)
        for plain in some_trees():
            told = sorted(chance.randrange(-2, 4) for _ in range(plain_width(plain)))
            for worth in range(-3, 5):
                self.check(plain, told, worth, *upto_by_sets(plain, told, worth))

    def test_over_all_lots(self):
        for plain in small_trees(3):
            for told in told_lists(plain_width(plain)):
                rows = lots_behind(plain, told, range(1, 7))
                for worth in range(0, 7):
                    counts = [len([one for one in row if one <= worth]) for row in rows]
                    if worth in range(2, 6):
                        self.check(plain, told, worth, min(counts), max(counts))
                    else:
                        self.check(plain, told, worth, *upto_by_sets(plain, told, worth))

    def test_over_lots_of_four_leaves(self):
        for plain in plain_trees(tuple("bacd"), 2)[::40]:
            for told in told_lists(plain_width(plain))[::3]:
                rows = lots_behind(plain, told, range(1, 7))
                for worth in (2, 3, 4, 5):
                    counts = [len([one for one in row if one <= worth]) for row in rows]
                    self.check(plain, told, worth, min(counts), max(counts))

    def test_several_ranks_within_several_ranks(self):
        rows = tuple(((1, 3), tuple(row)) for row in ("abc", "def", "ghi"))
        for plain in (((2, 3, 5), rows), ((1, 6), rows), THREE, chain(THREE, 3)):
            for told in told_lists(plain_width(plain)):
                for worth in range(1, 7):
                    self.check(plain, told, worth, *upto_by_sets(plain, told, worth))

    def test_one_leaf(self):
        for levels in (0, 1, 70):
            plain = chain("b", levels)
            for end in (0, -3, HUGE, -HUGE):
                self.check(plain, [end], end, 1, 1)
                self.check(plain, [end], end - 1, 0, 0)
                self.check(plain, [end], end + 1, 1, 1)
                self.assertEqual(few_lot(Report(built(plain), [end]), 5), Lot([("b", end)]))

    def test_one_group(self):
        plain = ((1, 3), tuple("abcde"))
        for told, worth, few, many in (([1, 1], 0, 0, 0), ([1, 1], 1, 3, 5), ([1, 2], 1, 1, 2), ([1, 9], 5, 1, 2),
                                       ([1, 9], 0, 0, 0), ([1, 9], 9, 3, 5), ([1, 9], 10, 3, 5), ([1, 9], HUGE, 3, 5),
                                       ([1, 9], -HUGE, 0, 0), ([-HUGE, HUGE], 0, 1, 2), ([-5, -5], -5, 3, 5)):
            self.check(plain, told, worth, few, many)

    def test_equal_ends_and_long_ones(self):
        for told in ([4, 4], [-HUGE, HUGE], [HUGE, HUGE], [HUGE - 1, HUGE], [-HUGE, -HUGE]):
            for worth in (-HUGE, 1 - HUGE, -1, 3, 4, 5, HUGE - 2, HUGE - 1, HUGE):
                self.check(THREE, told, worth, *upto_by_sets(THREE, told, worth))

    def test_arguments(self):
        report = Report(built(ONE), [10, 30])
        self.assertEqual(report.upto(worth=20), report.upto(20))
        for call in BOTH:
            self.assertEqual(call(worth=20, report=report), call(report, 20))


class Together(Asking):
    def reports(self, plains_and_told):
        return [Report(built(plain), told) for plain, told in plains_and_told]

    def check(self, plains_and_told):
        """Compare with all lots of worths from 1 to 6 behind each report; the told ends lie from 2 to 5."""
        reports = self.reports(plains_and_told)
        rows = {()}
        for plain, told in plains_and_told:
            more = lots_behind(plain, told, range(1, 7))
            rows = {tuple(sorted(row + other)) for row in rows for other in more}
        for worth in (2, 3, 4, 5):
            counts = [len([one for one in row if one <= worth]) for row in rows]
            found = known_counts(reports, worth)
            self.assertIs(type(found), tuple)
            self.assertEqual(found, (min(counts), max(counts)), (plains_and_told, worth))
        for rank in range(1, sum(len(report.tree) for report in reports) + 1):
            worths = [row[rank - 1] for row in rows]
            least, greatest = min(worths), max(worths)
            found = kth(reports, rank)
            self.assertIs(type(found), tuple)
            self.assertEqual(found, (None if least == 1 else least, None if greatest == 6 else greatest),
                             (plains_and_told, rank))

    def test_the_example(self):
        reports = self.reports([(ONE, [10, 30]), (OTHER, [20])])
        self.assertEqual([known_counts(reports, 25), kth(reports, 4)], [(3, 5), (20, 30)])

    def test_one_report(self):
        for plain in small_trees(3):
            for told in told_lists(plain_width(plain)):
                self.check([(plain, told)])
        for plain in plain_trees(tuple("bacd"), 2)[::60]:
            for told in told_lists(plain_width(plain))[::4]:
                self.check([(plain, told)])

    def test_two_reports(self):
        chance, plains = Random(101), small_trees(3)
        for _ in range(150):
            chosen = [chance.choice(plains), chance.choice(plains)]
            self.check([(plain, chance.choice(told_lists(plain_width(plain)))) for plain in chosen])

    def test_three_reports(self):
        chance, plains = Random(102), small_trees(2)
        for _ in range(60):
            chosen = [chance.choice(plains) for _ in range(3)]
            self.check([(plain, chance.choice(told_lists(plain_width(plain)))) for plain in chosen])

    def test_one_report_several_times(self):
        for plain, told in ((((1, 3), ("a", "b", "c")), [2, 4]), (((2,), ("a", "b", "c")), [4]), ("a", [5])):
            self.check([(plain, told), (plain, told)])
            report = Report(built(plain), told)
            for worth in range(1, 7):
                few, many = report.upto(worth)
                self.assertEqual(known_counts([report] * 3, worth), (3 * few, 3 * many))
            self.assertEqual([kth([report, report], rank) for rank in range(1, 2 * len(report.tree) + 1)],
                             [kth(self.reports([(plain, told)] * 2), rank)
                              for rank in range(1, 2 * len(report.tree) + 1)])

    def test_the_same_names_in_several_trees(self):
        reports = self.reports([("a", [1]), (((1,), ("a", "b")), [3]), ("a", [2])])
        self.assertEqual([known_counts(reports, worth) for worth in range(4)], [(0, 0), (1, 1), (2, 2), (3, 4)])
        self.assertEqual([kth(reports, rank) for rank in (1, 2, 3, 4)], [(1, 1), (2, 2), (3, 3), (3, None)])

    def test_sides_without_a_bound(self):
        reports = self.reports([(((2,), ("a", "b", "c")), [7])])
        self.assertEqual([kth(reports, rank) for rank in (1, 2, 3)], [(None, 7), (7, 7), (7, None)])
        reports = self.reports([(nine_tree(), [7])])
        self.assertEqual([kth(reports, rank) for rank in range(1, 10)],
                         [(None, 7)] * 4 + [(None, None)] + [(7, None)] * 4)

    def test_leaves_alone(self):
        ends = [5, -HUGE, HUGE, 5, 0, -2]
        reports = [Report(Leaf("a"), [end]) for end in ends]
        self.assertEqual([kth(reports, rank) for rank in range(1, 7)], [(end, end) for end in sorted(ends)])
        self.assertEqual(known_counts(reports, 4), (3, 3))

    def test_arguments(self):
        reports = self.reports([(ONE, [10, 30]), (OTHER, [20])])
        self.assertEqual(known_counts(worth=25, reports=reports), (3, 5))
        self.assertEqual(kth(rank=4, reports=reports), (20, 30))


class Wrong(Asking):
    def wrong_told(self):
        pairs = [[1], [1, 2, 3], [], [2, 1], [1, True], [False, 1], [1, None], ["1", 2], (1, 2), [(1, 2)], [[1, 2]],
                 [[1], [2]], {1: 2}, "12", None, 0, [HUGE, HUGE - 1]]
        return pairs + values()

    def test_trees_come_first(self):
        for value in no_trees():
            self.raises(InvalidTree, value, Report, value, [1])
            self.raises(InvalidTree, value, Report, tree=value, told="neither")
            self.raises(InvalidTree, value, Report, value, value)

    def test_then_told_ends(self):
        for told in self.wrong_told():
            self.raises(InvalidReport, told, Report, built(ONE), told)
            self.raises(InvalidReport, told, Report, told=told, tree=built(THREE))
        for told in [[], [1, 2], [True], [None], (1,), 1, True, "1", [[1]]]:
            self.raises(InvalidReport, told, Report, Leaf("a"), told)
        for value in no_numbers():
            self.raises(InvalidReport, told := [value], Report, Leaf("a"), told)
            for told in ([1, value], [value, 1], [value, value]):
                self.raises(InvalidReport, told, Report, built(ONE), told)

    def test_worths(self):
        report = Report(built(ONE), [1, 2])
        for value in no_numbers():
            self.raises(InvalidNumber, value, report.upto, value)
            self.raises(InvalidNumber, value, report.upto, worth=value)
            for call in BOTH:
                self.raises(InvalidNumber, value, call, report, value)
                self.raises(InvalidNumber, value, call, worth=value, report=report)
            self.raises(InvalidNumber, value, known_counts, [report], value)
            self.raises(InvalidNumber, value, known_counts, worth=value, reports=[report, report])
            self.raises(InvalidNumber, value, kth, [report], value)
            self.raises(InvalidNumber, value, kth, rank=value, reports=[report])

    def test_reports_come_first(self):
        for value in values() + [[Report(Leaf("a"), [1])]]:
            for call in BOTH:
                self.raises(InvalidReport, value, call, value, 1)
                self.raises(InvalidReport, value, call, worth="neither", report=value)

    def test_lists_come_first(self):
        report = Report(built(ONE), [1, 2])
        lists = [(report,), report, {0: report}, [report, None], [None, report], [[report]], [report, [report]], [True],
                 [report, report.tree], [report, (report, 2)]]
        for call in (known_counts, kth):
            for value in lists + values():
                self.raises(InvalidList, value, call, value, 1)
                self.raises(InvalidList, value, call, value, "neither")
            for value in values():
                self.raises(InvalidList, reports := [report, value], call, reports, 0)

    def test_then_ranks(self):
        report = Report(built(ONE), [1, 2])
        for reports, many in (([report], 4), ([report, report], 8), ([Report(Leaf("a"), [3])], 1)):
            for rank in (0, -1, many + 1, HUGE, -HUGE):
                self.raises(InvalidNumber, rank, kth, reports, rank)
                self.raises(InvalidNumber, rank, kth, rank=rank, reports=reports)
            kth(reports, many)


class Staying(Asking):
    def test_nothing_changes(self):
        told, tree = [10, 30], built(ONE)
        report = Report(tree, told)
        told.append(5)
        told[0] = 99
        report.told.clear()
        report.told.append(3)
        self.assertIsNot(report.told, report.told)
        reports = [report, Report(built(OTHER), [20])]
        for call in BOTH:
            lot = call(report, 12)
            kept = lot.pairs()
            self.assertEqual(call(Report(built(ONE), [10, 30]), 12), lot)
            lot["a"] = HUGE
            lot.drop("b")
            self.assertEqual(call(report, 12).pairs(), kept)
        self.assertEqual([known_counts(reports, 25), kth(reports, 4), len(reports)], [(3, 5), (20, 30), 2])
        reports.append(report)
        self.assertEqual(known_counts(reports, 25), (4, 7))
        self.assertEqual((report.told, plain_of(report.tree), plain_of(tree)), ([10, 30], ONE, ONE))


class Limits(Checks, InTime):
    """Eight groups of five pass the ranks 1, 3 and 5 up, and of all that the ranks 3 to 22 are the ends."""

    def sizes(self):
        """The least and the greatest number of low leaves for each number of low ends."""
        found = {}
        ends_of_all = {0: {0}}
        for _ in range(8):
            more = {}
            for ends, sizes in ends_of_all.items():
                for low in range(6):
                    key = ends + (low >= 1) + (low >= 3) + (low >= 5)
                    more.setdefault(key, set()).update(size + low for size in sizes)
            ends_of_all = more
        for ends, sizes in ends_of_all.items():
            found.setdefault(min(max(ends - 2, 0), 20), set()).update(sizes)
        return {ends: (min(sizes), max(sizes)) for ends, sizes in found.items()}

    def test_a_full_tree(self):
        sizes = self.sizes()
        told = [(at // 3) * 1000 - HUGE // 2 for at in range(20)]
        for worth in [told[0] - 1, told[-1] + 1, HUGE, -HUGE] + sorted(set(told)) + [end + 1 for end in told[::3]]:
            low = len([end for end in told if end <= worth])
            self.check(full_tree(), told, worth, *sizes[low])

    def test_twenty_reports(self):
        sizes, tree = self.sizes(), built(full_tree())
        told = [[HUGE // (at + 2) + 7 * k * k for k in range(20)] for at in range(20)]
        reports = [Report(tree, ends) for ends in told]

        def counts(worth):
            both = [sizes[len([end for end in ends if end <= worth])] for ends in told]
            return sum(few for few, _ in both), sum(many for _, many in both)

        numbers = sorted(end for ends in told for end in ends)
        for worth in numbers[::9] + [numbers[0] - 1, numbers[-1] + 1]:
            self.assertEqual(known_counts(reports, worth), counts(worth))
        steps = [counts(numbers[0] - 1)] + [counts(end) for end in numbers]
        for rank in list(range(1, 801, 57)) + [2, 24, 799, 800]:
            least = next(at for at, (few, many) in enumerate(steps) if many >= rank)
            greatest = [end for end, (few, many) in zip(numbers, steps[1:]) if few >= rank][:1] or [None]
            self.assertEqual(kth(reports, rank), (None if least == 0 else numbers[least - 1], greatest[0]))

    def test_wide_trees(self):
        names = full_names()
        for ranks in (list(range(1, 21)), list(range(21, 41)), list(range(2, 41, 2))):
            plain = (tuple(ranks), tuple(names))
            told = [10 * rank for rank in ranks]
            for low in range(21):
                worth = 10 * ranks[low - 1] + 3 if low else 0
                self.check(plain, told, worth, ranks[low - 1] if low else 0, ranks[low] - 1 if low < 20 else 40)


if __name__ == "__main__":
    unittest.main()
