"""Promise [90], and [1] to [3] as far as they bear on towers."""

import unittest
from itertools import product

from asks import Asking, InTime
from plain import full_names, no_names, no_numbers, plain_of, plain_passes, subsets, values
from rankpicks.compare import is_simple
from rankpicks.counts import greatest_rank, least_rank
from rankpicks.errors import InvalidLevels, InvalidList
from rankpicks.places import rank_span
from rankpicks.towers import Tower
from rankpicks.trees import Group, Leaf

HUGE = 10 ** 40 - 1
LEVELS = [(count, rank) for count in (1, 2, 3) for rank in range(1, count + 1)]


def small_towers():
    """The levels of towers of one to three levels with at most 12 leaves, and some of four."""
    found = [list(levels) for many in (1, 2, 3) for levels in product(LEVELS, repeat=many)]
    found += [[(count, rank)] for count in (4, 5, 6, 12) for rank in range(1, count + 1)]
    found += [[(2, 1), (1, 1), (2, 2), (3, 2)], [(3, 1), (2, 2), (1, 1), (2, 1)], [(1, 1)] * 6, [(4, 2), (3, 3)]]
    return [levels for levels in found if size_by_hand(levels) <= 12]


def size_by_hand(levels):
    total = 1
    for count, _ in levels:
        total *= count
    return total


def tree_by_hand(levels, names):
    """The plain tree of a tower, from the top down."""
    if not levels:
        return names[0]
    count, rank = levels[-1]
    size = len(names) // count
    return ((rank,), tuple(tree_by_hand(levels[:-1], names[at:at + size]) for at in range(0, len(names), size)))


class Towers(Asking):
    def test_the_example(self):
        tower = Tower([(2, 1), (2, 2)])
        self.assertEqual([tower.least, tower.greatest], [2, 3])
        self.assertEqual(plain_of(tower.build(["a", "b", "c", "d"])), ((2,), (((1,), ("a", "b")), ((1,), ("c", "d")))))

    def test_against_the_tree(self):
        letters = "lkjihgfedcba"
        for levels in small_towers():
            tower = Tower(levels=levels)
            names = list(letters[:size_by_hand(levels)])
            tree = tower.build(names=names)
            self.assertEqual(plain_of(tree), tree_by_hand(levels, names))
            self.assertIs(is_simple(tree), True)
            self.assertEqual((tower.levels, tower.size), (levels, len(names)))
            self.assertEqual((tower.least, tower.greatest), (least_rank(tree), greatest_rank(tree)), levels)
            self.assertTrue(all(type(told) is int for told in (tower.size, tower.least, tower.greatest)))

    def test_over_all_sets_of_low_leaves(self):
        for levels in small_towers():
            names = list("abcdefghijkl"[:size_by_hand(levels)])
            if len(names) <= 8:
                plain = tree_by_hand(levels, names)
                sets = [(len(low), plain_passes(plain, low)) for low in subsets(names)]
                tower = Tower(levels)
                self.assertEqual(tower.least, min(many for many, ends in sets if ends == 1))
                self.assertEqual(tower.greatest, 1 + max(many for many, ends in sets if ends == 0))

    def test_one_level(self):
        for count, rank in ((1, 1), (5, 2), (5, 5), (HUGE, 1), (HUGE, HUGE), (HUGE, 7)):
            tower = Tower([(count, rank)])
            self.assertEqual((tower.levels, tower.size, tower.least, tower.greatest),
                             ([(count, rank)], count, rank, rank))

    def test_levels_of_one_group(self):
        tower = Tower([(1, 1)] * 70)
        self.assertEqual((tower.size, tower.least, tower.greatest), (1, 1, 1))
        tree = tower.build(["a"])
        self.assertEqual((len(tree.nodes()), tree.names()), (71, ["a"]))
        self.assertIs(type(tree), Group)

    def test_mirror(self):
        for levels in small_towers():
            tower = Tower(levels)
            mirror = tower.mirror()
            self.assertIs(type(mirror), Tower)
            self.assertEqual(mirror.levels, [(count, count + 1 - rank) for count, rank in levels])
            names = list("abcdefghijkl"[:tower.size])
            self.assertEqual(mirror.build(names), tower.build(names).mirror())
            self.assertEqual((mirror.size, mirror.least, mirror.greatest),
                             (tower.size, tower.size + 1 - tower.greatest, tower.size + 1 - tower.least))
            self.assertEqual(mirror.mirror(), tower)
            self.assertEqual(tower.levels, levels)

    def test_product(self):
        for one, other in product(small_towers()[::5], small_towers()[::7]):
            tower = Tower(one) * Tower(other)
            self.assertIs(type(tower), Tower)
            self.assertEqual((tower.levels, tower), (one + other, Tower(one + other)))
            self.assertEqual((tower.size, tower.least),
                             (Tower(one).size * Tower(other).size, Tower(one).least * Tower(other).least))
            self.assertEqual(tower.mirror(), Tower(one).mirror() * Tower(other).mirror())
        tower = Tower([(2, 1)])
        self.assertEqual([(tower * tower).levels, (tower * tower * tower).levels, tower.levels],
                         [[(2, 1)] * 2, [(2, 1)] * 3, [(2, 1)]])

    def test_product_builds_the_other_of_the_one(self):
        one, other = Tower([(3, 2)]), Tower([(2, 1)])
        self.assertEqual(plain_of((one * other).build(list("abcdef"))),
                         ((1,), (((2,), ("a", "b", "c")), ((2,), ("d", "e", "f")))))
        self.assertEqual(plain_of((other * one).build(list("abcdef"))),
                         ((2,), (((1,), ("a", "b")), ((1,), ("c", "d")), ((1,), ("e", "f")))))

    def test_product_with_no_tower(self):
        for value in (2, None, [(2, 1)], (2, 1), Leaf("a")):
            with self.assertRaises(TypeError):
                Tower([(2, 1)]) * value

    def test_equality(self):
        tower = Tower([(2, 1), (3, 2)])
        self.assertTrue(tower == Tower([(2, 1), (3, 2)]) and not tower != Tower([(2, 1), (3, 2)]))
        for levels in ([(2, 1)], [(3, 2), (2, 1)], [(2, 1), (3, 3)], [(2, 1), (3, 2), (1, 1)], [(2, 2), (3, 2)]):
            self.assertFalse(tower == Tower(levels))
            self.assertTrue(tower != Tower(levels))
        for value in values() + [[(2, 1), (3, 2)], tower.build(list("abcdef"))]:
            self.assertIs(tower == value, False)
            self.assertIs(value == tower, False)

    def test_several_levels_by_hand(self):
        tower = Tower([(3, 2), (5, 3), (2, 1)])
        self.assertEqual((tower.size, tower.least, tower.greatest), (30, 6, 30 - 2 * 3 * 2 + 1))
        self.assertEqual(rank_span(tower.build(full_names()[:30])), (6, 19))


class Wrong(Asking):
    def test_levels(self):
        for levels in ([], (), ((2, 1),), [[2, 1]], [(2, 1), [2, 1]], [(2,)], [(2, 1, 1)], [()], [(2, 3)], [(0, 0)],
                       [(1, 0)], [(2, -1)], [(-1, -1)], [(-1, 1)], [(2, 1), (2, 3)], [(2, 3), (2, 1)], [2], [None],
                       [(2, 1), None], [(True, 1)], [(1, True)], [(2, True)], [(True, True)], [("2", 1)], [(2, "1")],
                       [(None, None)], {(2, 1): 1}, {}, "", None, 0, 1, True, [(HUGE, HUGE + 1)], Tower([(2, 1)]),
                       [Tower([(2, 1)])], ["ab"], [([], 1)], [(2, [])]):
            self.raises(InvalidLevels, levels, Tower, levels)
            self.raises(InvalidLevels, levels, Tower, levels=levels)

    def test_any_value(self):
        for value in values():
            self.raises(InvalidLevels, value, Tower, value)
            self.raises(InvalidLevels, levels := [value], Tower, levels)
            self.raises(InvalidLevels, levels := [(2, 1), value], Tower, levels)
        for value in no_numbers():
            for item in ((value, 1), (5, value), (value, value)):
                self.raises(InvalidLevels, levels := [(2, 1), item], Tower, levels)

    def test_names(self):
        tower = Tower([(2, 1), (2, 2)])
        for names in ([], ["a"], ["a", "b", "c"], ["a", "b", "c", "d", "e"], ["a", "b", "c", "a"], ("a", "b", "c", "d"),
                      "abcd", {"a": 1, "b": 2, "c": 3, "d": 4}, ["a", "b", "c", "D"], ["a", "b", "c", ""], [1, 2, 3, 4],
                      ["a", "b", "c", ["d"]], ["a", "b", "c", None], [["a", "b", "c", "d"]], [Leaf(n) for n in "abcd"]):
            self.raises(InvalidList, names, tower.build, names)
            self.raises(InvalidList, names, tower.build, names=names)
        for value in values():
            self.raises(InvalidList, value, tower.build, value)
        for value in no_names():
            self.raises(InvalidList, names := ["a", "b", value, "d"], tower.build, names)
            self.raises(InvalidList, names := [value], Tower([(1, 1)]).build, names)
        self.assertEqual(tower.levels, [(2, 1), (2, 2)])

    def test_no_names_for_towers_of_any_size(self):
        names = full_names()
        for tower in (Tower([(HUGE, 3)] * 300), Tower([(2, 1)] * 300), Tower([(41, 1)]), Tower([(39, 1)])):
            self.raises(InvalidList, names, tower.build, names)


class Staying(Asking):
    def test_nothing_changes(self):
        levels, names = [(2, 1), (3, 2)], list("abcdef")
        tower = Tower(levels)
        tree = tower.build(names)
        levels.append((5, 5))
        levels[0] = (1, 1)
        names[0] = "x"
        tower.levels.clear()
        tower.levels.append((7, 7))
        tower.mirror().levels.clear()
        other = Tower([(4, 4)])
        both = tower * other
        both.levels.clear()
        self.assertEqual([tower.levels, other.levels, both.levels, tower.size],
                         [[(2, 1), (3, 2)], [(4, 4)], [(2, 1), (3, 2), (4, 4)], 6])
        self.assertIsNot(tower.levels, tower.levels)
        self.assertEqual(tree, tower.build(list("abcdef")))
        self.assertEqual(names, list("xbcdef"))


class Limits(InTime):
    def test_thousands_of_digits(self):
        levels = [(HUGE - at, 1 + at * (HUGE // 301)) for at in range(300)]
        tower = Tower(levels)
        size = least = high = 1
        for count, rank in levels:
            size, least, high = size * count, least * rank, high * (count + 1 - rank)
        self.assertGreater(size, 10 ** 11000)
        for many in (tower, tower.mirror().mirror(), Tower(levels[:100]) * Tower(levels[100:])):
            self.assertEqual((many.size, many.least, many.greatest), (size, least, size + 1 - high))
        self.assertEqual((tower.mirror().least, tower.mirror().greatest), (high, size + 1 - least))
        both = tower * tower.mirror()
        self.assertEqual((len(both.levels), both.size, both.least), (600, size * size, least * high))
        self.assertEqual(both.greatest, size * size + 1 - high * least)

    def test_full_trees(self):
        names = full_names()
        for levels in ([(40, 17)], [(2, 1), (2, 2), (2, 1), (5, 3)], [(5, 2), (8, 5)],
                       [(1, 1)] * 2 + [(5, 4)] + [(1, 1)] + [(8, 3)] + [(1, 1)] * 60):
            tower = Tower(levels)
            tree = tower.build(names)
            self.assertEqual(plain_of(tree), tree_by_hand(levels, names))
            self.assertEqual(rank_span(tree), (tower.least, tower.greatest))


if __name__ == "__main__":
    unittest.main()
