"""Promise [70], and [1] to [3] as far as they bear on changes."""

import unittest
from itertools import product
from random import Random

from asks import Asking, InTime
from plain import (built, chain, full_names, full_tree, nine_tree, no_lots, no_numbers, no_trees, plain_ends,
                   plain_names, plain_of, plain_passes, plain_width, some_trees, subsets, values)
from rankpicks.changes import fewest
from rankpicks.counts import greatest_rank, least_rank
from rankpicks.errors import InvalidList, InvalidLot, InvalidNumber, InvalidTree, Lacking
from rankpicks.lots import Lot
from rankpicks.trees import Group, Leaf

HUGE = 10 ** 40 - 1
FAR = 10 ** 50
EXAMPLE = ((1,), (((1,), ("d", "b")), ((2,), ("a", "c"))))
THREE = ((2, 3), (((1, 2, 4), ("a", "b", "c", "d")), "e"))


def example_lot():
    return Lot([("a", 5), ("b", 8), ("c", 9), ("d", 7)])


def reaches(plain, worths, changed, bound, j, up):
    """Whether the end is at the bound for some new worths of the changed leaves; far ones are enough to tell."""
    new = {name: FAR if up else -FAR for name in changed}
    end = plain_ends(plain, {**worths, **new})[j - 1]
    return end >= bound if up else end <= bound


def cheapest_by_hand(plain, worths, bound, j, up, prices):
    """The least price, over all sets of changed leaves."""
    sets = [changed for changed in subsets(plain_names(plain)) if reaches(plain, worths, changed, bound, j, up)]
    return min(sum(prices.get(name, 1) for name in changed) for changed in sets)


class Checks(Asking):
    def check(self, plain, worths, bound, j, up, prices, price):
        given = list(prices.items()) if prices else None
        found = fewest(built(plain), Lot(list(worths.items())), bound, j, up=up, prices=given)
        self.assertIs(type(found), tuple)
        told, names = found
        self.assertIs(type(told), int)
        self.assertIs(type(names), list)
        where = (plain, worths, bound, j, up, prices)
        self.assertEqual(names, sorted(set(names)), where)
        self.assertLessEqual(set(names), set(plain_names(plain)), where)
        self.assertEqual(told, sum(prices.get(name, 1) for name in names), where)
        self.assertTrue(reaches(plain, worths, names, bound, j, up), where)
        self.assertEqual(told, price, where)

    def by_hand(self, plain, worths, bound, j, up, prices):
        self.check(plain, worths, bound, j, up, prices, cheapest_by_hand(plain, worths, bound, j, up, prices))


class Changes(Checks):
    def test_the_example(self):
        tree = built(EXAMPLE)
        self.assertEqual([fewest(tree, example_lot(), 8, up=True), fewest(tree, example_lot(), 6, prices=[("b", 0)])],
                         [(1, ["d"]), (0, ["b"])])

    def test_over_all_sets_of_changed_leaves(self):
        chance = Random(70)
        for plain in some_trees():
            names = plain_names(plain)
            for up in (False, True):
                worths = {name: chance.randrange(-3, 4) for name in names}
                prices = {name: chance.randrange(4) for name in names if chance.randrange(3)}
                for j in range(1, plain_width(plain) + 1):
                    bound = chance.randrange(-4, 6)
                    self.by_hand(plain, worths, bound, j, up, {})
                    self.by_hand(plain, worths, bound, j, up, prices)

    def test_all_bounds_and_all_prices_for_some_trees(self):
        for plain in (EXAMPLE, ((1, 3), (((1, 2), ("a", "b", "c")), "d")), ((2,), (((1, 3), ("a", "b", "d")), "c"))):
            for j, up in product(range(1, plain_width(plain) + 1), (False, True)):
                for worths in ((2, 1, 4, 3), (1, 1, 3, 3), (2, 2, 2, 2), (-4, 4, -2, 2)):
                    by_name = dict(zip("abcd", worths))
                    for bound in range(-5, 6):
                        self.by_hand(plain, by_name, bound, j, up, {})
                for prices in product((0, 1, 3), repeat=4):
                    self.by_hand(plain, dict(zip("abcd", (2, 1, 4, 3))), 2, j, up, dict(zip("abcd", prices)))

    def test_new_worths_that_are_not_far(self):
        # Each changed leaf at the bound itself is as good as any.
        for up in (False, True):
            for bound in range(4, 11):
                _, names = fewest(built(EXAMPLE), example_lot(), bound, up=up)
                worths = {**dict(example_lot().pairs()), **{name: bound for name in names}}
                end = plain_ends(EXAMPLE, worths)[0]
                self.assertTrue(end >= bound if up else end <= bound)

    def test_nothing_to_change(self):
        tree = built(EXAMPLE)
        for bound in (7, 8, 100, HUGE):
            self.assertEqual(fewest(tree, example_lot(), bound), (0, []))
            self.assertEqual(fewest(tree, example_lot(), bound, prices=[("a", 3), ("c", HUGE)]), (0, []))
        for bound in (7, 6, -100, -HUGE):
            self.assertEqual(fewest(tree, example_lot(), bound, up=True), (0, []))
        for bound, up in ((6, False), (8, True)):
            self.assertEqual(fewest(tree, example_lot(), bound, up=up)[0], 1)

    def test_bounds_at_beside_below_and_above_equal_worths(self):
        plain = ((1, 3), (((2,), ("a", "b", "c")), "d", "e"))
        for worth in (0, -6, HUGE, -HUGE):
            worths = {name: worth for name in "abcde"}
            for bound in (worth - 1, worth, worth + 1, -HUGE, HUGE, 0):
                for j, up in product((1, 2), (False, True)):
                    self.by_hand(plain, worths, bound, j, up, {})
                    self.by_hand(plain, worths, bound, j, up, {"d": 0, "b": 2})

    def test_long_worths_and_prices(self):
        worths = {"a": HUGE, "b": -HUGE, "c": HUGE - 1, "d": 1 - HUGE, "e": 0}
        prices = {"a": HUGE, "b": HUGE - 1, "d": HUGE, "e": 2 * HUGE // 3}
        for j, up, bound in product((1, 2), (False, True), (-HUGE, 1 - HUGE, 0, HUGE - 1, HUGE)):
            self.by_hand(THREE, worths, bound, j, up, {})
            self.by_hand(THREE, worths, bound, j, up, prices)

    def test_one_leaf(self):
        for levels in (0, 1, 70):
            tree = built(chain("b", levels))
            self.assertEqual([fewest(tree, Lot([("b", 3)]), bound) for bound in (2, 3, 4)],
                             [(1, ["b"]), (0, []), (0, [])])
            self.assertEqual([fewest(tree, Lot([("b", 3)]), bound, up=True) for bound in (2, 3, 4)],
                             [(0, []), (0, []), (1, ["b"])])
            self.assertEqual(fewest(tree, Lot([("b", 3)]), 2, prices=[("b", 0)]), (0, ["b"]))
            self.assertEqual(fewest(tree, Lot([("b", 3)]), 2, prices=[("b", HUGE)]), (HUGE, ["b"]))

    def test_groups_of_one_part(self):
        worths = dict(zip("abcde", (4, -1, 4, 0, 2)))
        for bound, up in product((-2, -1, 0, 3, 4, 5), (False, True)):
            for j in (1, 2):
                self.by_hand(chain(THREE, 3), worths, bound, j, up, {"b": 0})
                self.by_hand(((j,), (THREE,)), worths, bound, 1, up, {"b": 3, "c": 0})

    def test_all_leaves_beyond_the_bound(self):
        # Then only the number of changes counts: what [30] says of the end.
        for plain in some_trees()[::5]:
            tree = built(plain)
            lot = Lot([(name, 0) for name in tree.names()])
            for j in range(1, tree.width + 1):
                self.assertEqual(fewest(tree, lot, -1, j)[0], least_rank(tree, j))
                self.assertEqual(fewest(tree, lot, 1, j, up=True)[0], len(tree) - greatest_rank(tree, j) + 1)

    def test_prices_of_nothing(self):
        tree = built(nine_tree())
        lot = Lot([(name, 0) for name in "abcdefghi"])
        free = [(name, 0) for name in "abcdefghi"]
        price, names = fewest(tree, lot, -1, prices=free)
        self.assertEqual(price, 0)
        self.assertTrue(reaches(nine_tree(), dict(lot.pairs()), names, -1, 1, False))
        self.assertEqual(fewest(tree, lot, -1, prices=free[:4])[0], 1)
        self.assertEqual(fewest(tree, lot, 1, up=True, prices=free[:4])[0], 1)
        self.assertEqual(fewest(tree, lot, -1, prices=free[:3] + free[5:7])[0], 1)
        self.assertEqual(fewest(tree, lot, -1, prices=[("a", 0), ("b", 0), ("d", 0), ("e", 0)]),
                         (0, ["a", "b", "d", "e"]))

    def test_arguments(self):
        tree, lot = built(THREE), Lot([(name, at) for at, name in enumerate("abcde")])
        first = fewest(tree, lot, -1, 1, up=False, prices=[])
        for found in (fewest(tree, lot, -1), fewest(tree, lot, -1, 1), fewest(tree, lot, -1, prices=None),
                      fewest(tree, lot, -1, up=False), fewest(bound=-1, lot=lot, tree=tree, j=1)):
            self.assertEqual(found, first)
        self.assertEqual((fewest(tree, lot, -1)[0], fewest(tree, lot, -1, 2)[0]), (2, 3))
        self.assertEqual(fewest(tree, lot, 5, up=True)[0], 4)
        with self.assertRaises(TypeError):
            fewest(tree, lot, -1, 1, True)
        with self.assertRaises(TypeError):
            fewest(tree, lot, -1, 1, True, [])

    def test_names_that_the_tree_lacks(self):
        lot = example_lot()
        for at, name in enumerate(("x", "y", "aa")):
            lot[name] = -100 + 100 * at
        for up, bound in product((False, True), range(4, 11)):
            self.assertEqual(fewest(built(EXAMPLE), lot, bound, up=up),
                             fewest(built(EXAMPLE), example_lot(), bound, up=up))


class Wrong(Asking):
    def wrong_prices(self):
        lists = [value for value in values() if value not in (None, [], [("a", 1)])]
        items = [[("a", value)] for value in no_numbers()] + [[("a", -1)], [("a", -HUGE)], [("b", 1), ("c", -1)]]
        names = [[(value, 1)] for value in values() if value not in ("a", "b")]
        return lists + items + names + [
            (("a", 1),), {"a": 1}, [["a", 1]], [("a", 1, 2)], [("a",)], ["ab"], [("a", 1), ("a", 1)], [("x", 1)],
            [("a", 1), ("a", 2)], [("aa", 0)], [("a", 1), None], [[("a", 1)]], [("a", 1), ("x", 1)], [("a", True)]]

    def test_trees_come_first(self):
        for value in no_trees():
            self.raises(InvalidTree, value, fewest, value, example_lot(), 1)
            self.raises(InvalidTree, value, fewest, value, None, "neither", 0, prices="nor")
            self.raises(InvalidTree, value, fewest, tree=value, lot=Lot(), bound=True, j=0, up=True, prices=[1])

    def test_then_lots(self):
        for value in no_lots():
            self.raises(InvalidLot, value, fewest, built(EXAMPLE), value, 1)
            self.raises(InvalidLot, value, fewest, built(EXAMPLE), value, "neither", 0, prices="nor")
            self.raises(InvalidLot, value, fewest, built(EXAMPLE), lot=value, bound=1, j=2, up=True, prices=())

    def test_then_bounds(self):
        for value in no_numbers():
            for lot in (example_lot(), Lot()):
                self.raises(InvalidNumber, value, fewest, built(EXAMPLE), lot, value)
                self.raises(InvalidNumber, value, fewest, built(EXAMPLE), lot, value, "neither", prices="nor")
                self.raises(InvalidNumber, value, fewest, built(EXAMPLE), lot, bound=value, j=2 * HUGE, up=True)

    def test_then_ends(self):
        for lot in (example_lot(), Lot()):
            for j in (0, 2, -1, HUGE, -HUGE):
                self.raises(InvalidNumber, j, fewest, built(EXAMPLE), lot, 7, j)
                self.raises(InvalidNumber, j, fewest, built(EXAMPLE), lot, 7, j=j, up=True, prices="neither")
            for value in no_numbers():
                self.raises(InvalidNumber, value, fewest, built(EXAMPLE), lot, 7, value)
                self.raises(InvalidNumber, value, fewest, built(EXAMPLE), lot, 7, value, prices=[("x", 1)])
        self.raises(InvalidNumber, 3, fewest, built(THREE), Lot(), 7, 3)

    def test_then_prices(self):
        for prices in self.wrong_prices():
            for lot in (example_lot(), Lot()):
                self.raises(InvalidList, prices, fewest, built(EXAMPLE), lot, 7, prices=prices)
                self.raises(InvalidList, prices, fewest, built(EXAMPLE), lot, 9, 1, up=True, prices=prices)

    def test_then_worths(self):
        for up, prices in product((False, True), (None, [], [("a", 0)])):
            for first, lot in (("d", Lot()), ("d", Lot([("x", 1), ("a", 2)])), ("b", Lot([("d", 1), ("c", 1)])),
                               ("c", Lot([("a", 1), ("b", 1), ("d", 1)]))):
                kept = lot.pairs()
                with self.assertRaises(Lacking) as caught:
                    fewest(built(EXAMPLE), lot, 7, up=up, prices=prices)
                self.assertIs(type(caught.exception), Lacking)
                self.assertEqual((caught.exception.which, lot.pairs()), (first, kept))


class Staying(Asking):
    def test_nothing_changes(self):
        tree, lot, prices = built(EXAMPLE), example_lot(), [("b", 2), ("d", 0), ("a", 0), ("c", 0)]
        for up, bound in product((False, True), (4, 5, 8, 9, 10)):
            found = fewest(tree, lot, bound, up=up, prices=prices)
            kept = (found[0], list(found[1]))
            self.assertEqual(fewest(built(EXAMPLE), example_lot(), bound, up=up, prices=list(prices)), kept)
            found[1].append("x")
            found[1].reverse()
            self.assertEqual(fewest(tree, lot, bound, up=up, prices=prices), kept)
        self.assertEqual((plain_of(tree), lot), (EXAMPLE, example_lot()))
        self.assertEqual(prices, [("b", 2), ("d", 0), ("a", 0), ("c", 0)])

    def test_the_order_of_a_lot_does_not_matter(self):
        tree, pairs = built(nine_tree()), [(name, 0) for name in "abcdefghi"]
        for up, bound in ((False, -1), (True, 1)):
            self.assertEqual(fewest(tree, Lot(pairs), bound, up=up), fewest(tree, Lot(pairs[::-1]), bound, up=up))


class Limits(Checks, InTime):
    def sizes(self, j, up, low):
        """The fewest changes for eight groups of five, of which the ranks 1, 3 and 5 pass, and of all that 3 to 22.

        `low` is how many leaves of each group are at most the bound; what is not low is at least the next one.
        """
        most = {0: 0}
        for group in low:
            more = {}
            for ends, many in most.items():
                for now in range(6):
                    cost = max(group - now, 0) if up else max(now - group, 0)
                    key = ends + (now >= 1) + (now >= 3) + (now >= 5)
                    more[key] = min(many + cost, more.get(key, many + cost))
            most = more
        return min(many for ends, many in most.items() if (ends < j + 2 if up else ends >= j + 2))

    def test_a_full_tree(self):
        plain, names = full_tree(), full_names()
        for low in ((0,) * 8, (5,) * 8, (0, 1, 2, 3, 4, 5, 0, 2), (3, 3, 3, 2, 2, 2, 1, 1)):
            worths = {name: 0 if at % 5 < low[at // 5] else 9 for at, name in enumerate(names)}
            for j in (1, 2, 7, 10, 19, 20):
                self.check(plain, worths, 4, j, False, {}, self.sizes(j, False, low))
                self.check(plain, worths, 5, j, True, {}, self.sizes(j, True, low))
                self.check(plain, worths, 4, j, False, {name: HUGE for name in names},
                           HUGE * self.sizes(j, False, low))

    def test_prices_of_one_group(self):
        names = full_names()
        tree, lot = Group(list(range(11, 31)), [Leaf(name) for name in names]), Lot([(name, 0) for name in names])
        prices = [(name, (at * 17) % 40 * HUGE // 41) for at, name in enumerate(names)]
        for j in (1, 5, 20):
            dear = sorted(price for _, price in prices)
            self.assertEqual(fewest(tree, lot, -1, j, prices=prices)[0], sum(dear[:j + 10]))
            self.assertEqual(fewest(tree, lot, 1, j, up=True, prices=prices)[0], sum(dear[:31 - j]))

    def test_wide_groups_within_groups(self):
        names = full_names()
        halves = tuple((tuple(range(1, 21)), tuple(half)) for half in (names[:20], names[20:]))
        plain = chain((tuple(range(11, 31)), halves), 60)
        worths = {name: at for at, name in enumerate(names)}
        for j in (1, 10, 20):
            self.check(plain, worths, 4, j, False, {}, j + 5)
            self.check(plain, worths, 35, j, True, {}, 26 - j)
        self.assertEqual(plain_passes(plain, names[:15]), 5)


if __name__ == "__main__":
    unittest.main()
