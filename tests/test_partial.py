"""Promise [110], and [1] to [3] as far as they bear on parts of lots."""

import unittest
from itertools import product
from random import Random

from asks import Asking, InTime
from plain import (built, chain, full_names, full_tree, nine_tree, no_lots, no_numbers, no_trees, plain_ends,
                   plain_names, plain_of, plain_width, small_trees, some_trees)
from rankpicks.errors import InvalidLot, InvalidNumber, InvalidTree, Lacking
from rankpicks.lots import Lot, end_of
from rankpicks.partial import between, decides, matters
from rankpicks.trees import Group, Leaf

HUGE = 10 ** 40 - 1
ALL = (between, matters, decides)
EXAMPLE = ((1, 3), (((2,), ("a", "b", "c")), "d", "e"))
THREE = ((2, 3), (((1, 2, 4), ("a", "b", "c", "d")), "e"))


def places(worths):
    """Below, at, and beside all worths: more than enough of each to tell apart what lacking worths can do."""
    known = sorted(set(worths)) or [0]
    return sorted({worth + step for worth in known for step in (-1, 0, 1)} | {known[0] - 2, known[-1] + 2})


class ByHand:
    """What can become of each end, over all worths that matter for the lacking leaves."""

    def __init__(self, plain, worths):
        self.free = [name for name in plain_names(plain) if name not in worths]
        self.known = [worth for name, worth in worths.items() if name in plain_names(plain)]
        self.places = places(self.known)
        self.ends = {filling: plain_ends(plain, {**worths, **dict(zip(self.free, filling))})
                     for filling in product(self.places, repeat=len(self.free))}

    def between(self, j):
        ends = [found[j - 1] for found in self.ends.values()]
        bounds = (min(self.known), max(self.known)) if self.known else (0, 0)
        # An end that goes beyond all known worths goes any way beyond them.
        alone = not self.known
        return (None if alone or min(ends) < bounds[0] else min(ends),
                None if alone or max(ends) > bounds[1] else max(ends))

    def matters(self, j):
        found = []
        for at, name in enumerate(self.free):
            by_others = {}
            for filling, ends in self.ends.items():
                by_others.setdefault(filling[:at] + filling[at + 1:], set()).add(ends[j - 1])
            if any(len(reached) > 1 for reached in by_others.values()):
                found.append(name)
        return found


def decides_by_hand(plain, worths, j):
    found = []
    for name in plain_names(plain):
        ends = {plain_ends(plain, {**worths, name: place})[j - 1] for place in places(worths.values())}
        if len(ends) > 1:
            found.append(name)
    return found


class Partial(Asking):
    def check(self, plain, worths):
        tree, lot, hand = built(plain), Lot(list(worths.items())), ByHand(plain, worths)
        for j in range(1, plain_width(plain) + 1):
            found = between(tree, lot, j)
            self.assertIs(type(found), tuple)
            self.assertEqual(found, hand.between(j), (plain, worths, j))
            found = matters(tree, lot, j)
            self.assertIs(type(found), list)
            self.assertEqual(found, hand.matters(j), (plain, worths, j))

    def check_decides(self, plain, worths):
        tree, lot = built(plain), Lot(list(worths.items()))
        for j in range(1, plain_width(plain) + 1):
            found = decides(tree, lot, j)
            self.assertIs(type(found), list)
            self.assertEqual(found, decides_by_hand(plain, worths, j), (plain, worths, j))

    def test_the_example(self):
        tree, lot = built(EXAMPLE), Lot([("a", 4), ("b", 9), ("d", 6)])
        self.assertEqual([between(tree, lot), between(tree, lot, 2), matters(tree, lot, 2)],
                         [(None, 6), (6, None), ["c", "e"]])

    def test_over_all_worths_of_lacking_leaves(self):
        for plain in small_trees(3):
            names = plain_names(plain)
            for known in product((None, 0, 5), repeat=len(names)):
                self.check(plain, {name: worth for name, worth in zip(names, known) if worth is not None})

    def test_four_and_five_leaves(self):
        chance = Random(110)
        for plain in some_trees()[::4]:
            names = plain_names(plain)
            chosen = chance.sample(names, len(names) - chance.randrange(min(4, len(names) + 1)))
            self.check(plain, {name: chance.randrange(0, 9, 2) for name in chosen})

    def test_three_levels(self):
        chance = Random(111)
        pairs = (((1,), (((1, 2), ("a", "b")), "c")), ((2,), (((1, 3), ("d", "e", "f")), "g")))
        for plain in (nine_tree(), ((1, 2), pairs), ((2,), pairs), ((1,), (((1, 2), pairs),))):
            names = plain_names(plain)
            for _ in range(25):
                chosen = chance.sample(names, len(names) - chance.randrange(4))
                self.check(plain, {name: chance.randrange(3) * 3 for name in chosen})

    def test_decides_over_all_worths(self):
        for plain in small_trees(3):
            names = plain_names(plain)
            for worths in product((0, 5, 6), repeat=len(names)):
                self.check_decides(plain, dict(zip(names, worths)))
        chance = Random(112)
        for plain in some_trees()[::3] + [nine_tree()]:
            self.check_decides(plain, {name: chance.randrange(5) for name in plain_names(plain)})

    def test_no_worth_lacks(self):
        chance = Random(113)
        for plain in some_trees()[::5]:
            worths = {name: chance.randrange(-3, 3) for name in plain_names(plain)}
            for j, end in enumerate(plain_ends(plain, worths), start=1):
                lot = Lot(list(worths.items()))
                self.assertEqual((between(built(plain), lot, j), matters(built(plain), lot, j)), ((end, end), []))

    def test_all_worths_lack(self):
        for plain in some_trees()[::5] + [nine_tree(), chain("a", 70)]:
            tree = built(plain)
            for lot in (Lot(), Lot([("x", 3), ("yy", -3)])):
                for j in range(1, tree.width + 1):
                    self.assertEqual((between(tree, lot, j), matters(tree, lot, j)), ((None, None), tree.names()))

    def test_one_leaf(self):
        for levels in (0, 1, 70):
            tree = built(chain("b", levels))
            for worth in (0, -4, HUGE, -HUGE):
                lot = Lot([("b", worth)])
                self.assertEqual([between(tree, lot), matters(tree, lot), decides(tree, lot)],
                                 [(worth, worth), [], ["b"]])
            self.assertEqual([between(tree, Lot([("a", 1)])), matters(tree, Lot([("a", 1)]))], [(None, None), ["b"]])

    def test_groups_of_one_part(self):
        for known in ("", "ab", "abc", "ade", "bcde"):
            worths = {name: at for at, name in enumerate(known)}
            self.check(chain(THREE, 3), worths)
            self.check(((2,), (THREE,)), worths)
        self.check_decides(((1,), (chain(THREE, 2),)), dict(zip("abcde", (3, 1, 2, 2, 0))))

    def test_equal_worths(self):
        # Of nine leaves, no single one outweighs the others where they are equal.
        tree, nine = built(nine_tree()), "abcdefghi"
        for worth in (0, -8, HUGE):
            lot = Lot([(name, worth) for name in nine])
            self.assertEqual(decides(tree, lot), [])
            lot.drop("a")
            self.assertEqual([between(tree, lot), matters(tree, lot)], [(worth, worth), []])
        self.check_decides(THREE, {name: 4 for name in "abcde"})
        self.check_decides(((1,), ("a", "b")), {"a": 4, "b": 4})
        self.assertEqual(decides(built(((1,), ("a", "b"))), Lot([("a", 4), ("b", 4)])), ["a", "b"])
        self.assertEqual(decides(built(((2,), ("a", "b", "c"))), Lot([("a", 4), ("b", 4), ("c", 4)])), [])

    def test_worths_of_long_and_of_negative_numbers(self):
        tree = built(((2,), ("a", "b", "c")))
        self.assertEqual(between(tree, Lot([("a", -HUGE), ("c", HUGE)])), (-HUGE, HUGE))
        self.assertEqual(between(tree, Lot([("a", -HUGE), ("c", -HUGE)])), (-HUGE, -HUGE))
        self.assertEqual(matters(tree, Lot([("a", -HUGE), ("c", -HUGE)])), [])
        self.assertEqual(matters(tree, Lot([("a", -HUGE), ("c", 1 - HUGE)])), ["b"])
        self.assertEqual(between(tree, Lot([("b", HUGE)])), (None, None))
        self.assertEqual(decides(tree, Lot([("a", -HUGE), ("b", HUGE), ("c", 0)])), ["a", "b", "c"])

    def test_worths_side_by_side(self):
        # Nothing lies strictly between 4 and 5, but the end may be either.
        tree = built(((2,), ("a", "b", "c")))
        for lot in (Lot([("a", 4), ("b", 5)]), Lot([("b", 4), ("c", 5)])):
            self.assertEqual((between(tree, lot), len(matters(tree, lot))), ((4, 5), 1))
        self.assertEqual(decides(tree, Lot([("a", 4), ("b", 5), ("c", 5)])), ["b", "c"])

    def test_a_leaf_that_matters_for_some_worths_of_the_others_only(self):
        plain = ((1,), (((2,), ("a", "b")), "c"))
        self.check(plain, {"c": 3})
        self.assertEqual(matters(built(plain), Lot([("c", 3)])), ["a", "b"])
        self.assertEqual(matters(built(plain), Lot([("c", 3), ("a", 3)])), [])
        self.assertEqual(matters(built(plain), Lot([("c", 3), ("a", 2)])), ["b"])
        self.assertEqual(matters(built(plain), Lot([("a", 2)])), ["b", "c"])

    def test_names_that_the_tree_lacks(self):
        tree, lot = built(EXAMPLE), Lot([("a", 4), ("b", 9), ("d", 6)])
        more = Lot(lot.pairs() + [("x", -100), ("y", 100), ("ab", 7)])
        for j in (1, 2):
            self.assertEqual([between(tree, more, j), matters(tree, more, j)],
                             [between(tree, lot, j), matters(tree, lot, j)])
        for one in (lot, more):
            one["c"] = 5
            one["e"] = 5
        self.assertEqual(decides(tree, more), decides(tree, lot))

    def test_order_of_the_names(self):
        tree = Group([2], [Leaf("c"), Leaf("aa"), Leaf("b")])
        self.assertEqual(matters(tree, Lot()), ["c", "aa", "b"])
        self.assertEqual(decides(tree, Lot([("aa", 1), ("b", 2), ("c", 3)])), ["c", "aa", "b"])

    def test_arguments(self):
        tree, lot = built(EXAMPLE), Lot([(name, at) for at, name in enumerate("abcde")])
        for call in ALL:
            self.assertEqual(call(tree, lot), call(tree, lot, 1))
            self.assertEqual(call(j=2, lot=lot, tree=tree), call(tree, lot, 2))
        self.assertNotEqual(between(tree, lot), between(tree, lot, 2))
        self.assertNotEqual(decides(tree, lot), decides(tree, lot, 2))
        lot.drop("b")
        self.assertNotEqual(matters(tree, lot), matters(tree, lot, 2))


class Wrong(Asking):
    def test_trees_come_first(self):
        for value in no_trees():
            for call in ALL:
                self.raises(InvalidTree, value, call, value, Lot())
                self.raises(InvalidTree, value, call, tree=value, lot="neither", j="nor")

    def test_then_lots(self):
        for value in no_lots():
            for call in ALL:
                self.raises(InvalidLot, value, call, built(EXAMPLE), value)
                self.raises(InvalidLot, value, call, built(EXAMPLE), lot=value, j=0)

    def test_then_ends(self):
        for j in [0, 3, -1, HUGE, -HUGE] + no_numbers():
            for call in ALL:
                for lot in (Lot(), Lot([(name, 1) for name in "abcde"])):
                    self.raises(InvalidNumber, j, call, built(EXAMPLE), lot, j)
                    self.raises(InvalidNumber, j, call, built(EXAMPLE), lot, j=j)
        for call in ALL:
            self.raises(InvalidNumber, 2, call, Leaf("a"), Lot(), 2)

    def test_then_worths_where_none_may_lack(self):
        for first, lot in (("a", Lot()), ("a", Lot([("b", 1), ("x", 1)])), ("c", Lot([("b", 2), ("a", 1), ("e", 1)])),
                           ("e", Lot([(name, 1) for name in "dcba"]))):
            for j in (1, 2):
                kept = lot.pairs()
                with self.assertRaises(Lacking) as caught:
                    decides(built(EXAMPLE), lot, j)
                self.assertIs(type(caught.exception), Lacking)
                self.assertEqual((caught.exception.which, lot.pairs()), (first, kept))
                between(built(EXAMPLE), lot, j)
                matters(built(EXAMPLE), lot, j)


class Staying(Asking):
    def test_nothing_changes(self):
        tree, lot = built(EXAMPLE), Lot([("a", 4), ("b", 9), ("d", 6), ("x", 1)])
        for j in (1, 2):
            found, kept = matters(tree, lot, j), matters(built(EXAMPLE), lot.copy(), j)
            self.assertEqual(found, kept)
            found.clear()
            self.assertEqual(matters(tree, lot, j), kept)
            self.assertEqual(between(tree, lot, j), between(tree, lot, j))
        full = Lot([(name, ord(name)) for name in "abcde"])
        found = decides(tree, full)
        found.append("x")
        self.assertEqual(decides(tree, full), found[:-1])
        self.assertEqual((plain_of(tree), lot), (EXAMPLE, Lot([("a", 4), ("b", 9), ("d", 6), ("x", 1)])))
        self.assertEqual(full, Lot([(name, ord(name)) for name in "abcde"]))


class Limits(InTime):
    """Eight groups of five pass the ranks 1, 3 and 5 up, and of all that the ranks 3 to 22 are the ends."""

    def setUp(self):
        super().setUp()
        self.plain, self.names = full_tree(), full_names()
        self.tree = built(self.plain)

    def span(self, low, free):
        """The least and the greatest number of low ends of groups with so many low and so many free leaves."""
        least = sum((many >= 1) + (many >= 3) + (many >= 5) for many in low)
        high = [many + more for many, more in zip(low, free)]
        return least, sum((many >= 1) + (many >= 3) + (many >= 5) for many in high)

    def can_matter(self, group, j, low, free):
        """Whether a free leaf of this group can lead from j - 1 low ends to j, that is from j + 1 to j + 2 taken in."""
        others = [at for at in range(8) if at != group]
        least, most = self.span([low[at] for at in others], [free[at] for at in others])
        for many in range(low[group], low[group] + free[group]):
            if many in (0, 2, 4):
                before = (many >= 1) + (many >= 3) + (many >= 5)
                if least <= j + 1 - before <= most:
                    return True
        return False

    def test_a_full_tree(self):
        chance = Random(114)
        for many in (5, 20, 35):
            worths = {name: chance.choice((-HUGE, 0, 3, HUGE)) for name in chance.sample(self.names, many)}
            free = [len([name for name in self.names[at:at + 5] if name not in worths]) for at in range(0, 40, 5)]
            lot = Lot(list(worths.items()) + [("x", 4)])
            ends = {far: plain_ends(self.plain, {name: worths.get(name, far) for name in self.names})
                    for far in (-10 * HUGE, 10 * HUGE)}
            for j in (1, 2, 10, 11, 19, 20):
                least, greatest = ends[-10 * HUGE][j - 1], ends[10 * HUGE][j - 1]
                self.assertEqual(between(self.tree, lot, j),
                                 (None if least < -HUGE else least, None if greatest > HUGE else greatest))
                lows = [[len([name for name in self.names[at:at + 5] if name in worths and worths[name] <= bound])
                         for at in range(0, 40, 5)] for bound in (-2 * HUGE, -HUGE, 0, 3, HUGE)]
                told = [name for at, name in enumerate(self.names) if name not in worths
                        and any(self.can_matter(at // 5, j, low, free) for low in lows)]
                self.assertEqual(matters(self.tree, lot, j), told)

    def test_forty_worths_and_none(self):
        lot = Lot([(name, (at * 17) % 40) for at, name in enumerate(self.names)])
        worths = dict(lot.pairs())
        for j in (1, 10, 20):
            self.assertEqual(decides(self.tree, lot, j), decides_by_hand(self.plain, worths, j))
            self.assertEqual(between(self.tree, Lot(), j), (None, None))
            self.assertEqual(matters(self.tree, Lot(), j), self.names)

    def test_the_most_bounds(self):
        # As many different worths as lacking ones, in all groups alike.
        worths = {name: at for at, name in enumerate(self.names) if at % 2 == 0}
        lot = Lot(list(worths.items()))
        for j in (1, 5, 10, 15, 20):
            found = matters(self.tree, lot, j)
            self.assertLessEqual(set(found), set(self.names[1::2]))
            least, greatest = between(self.tree, lot, j)
            full = lot.copy()
            for name in self.names[1::2]:
                full[name] = 7
            self.assertTrue(least is None or least <= end_of(self.tree, full, j))
            self.assertTrue(greatest is None or end_of(self.tree, full, j) <= greatest)


if __name__ == "__main__":
    unittest.main()
