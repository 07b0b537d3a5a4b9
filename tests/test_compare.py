"""Promises [80] and [81], and [1] to [3] as far as they bear on comparisons."""

import unittest
from itertools import permutations, product
from random import Random

from asks import Asking, InTime
from plain import (built, chain, full_names, nine_tree, no_numbers, no_trees, plain_ends, plain_levels, plain_names,
                   plain_nodes, plain_of, plain_passes, plain_trees, plain_width, small_trees, subsets)
from rankpicks.compare import alike, is_simple, normal, parting
from rankpicks.errors import InvalidNumber, InvalidTree
from rankpicks.lots import Lot, ends_of
from rankpicks.trees import Group, Leaf

HUGE = 10 ** 40 - 1
ONE = ((1,), (((1,), ("d", "b")), ((2,), ("a", "c"))))
OTHER = ((1,), (((2,), ("c", "a")), "b", "d"))
THREE = ((2, 3), (((1, 2, 4), ("a", "b", "c", "d")), "e"))


def ways(plain, names):
    """How many ends are low, for each set of low leaves."""
    return [plain_passes(plain, low) for low in subsets(names)]


def simple_trees(names, levels):
    """All plain trees of `plain_trees` whose groups have one rank each."""
    return [plain for plain in plain_trees(names, levels)
            if all(isinstance(node, str) or len(node[0]) == 1 for node in plain_nodes(plain))]


def otherwise(plain, chance):
    """The same tree written otherwise: parts exchanged, groups of one part put in, least and greatest ones cut."""
    if chance.randrange(4) == 0:
        return ((1,), (otherwise(plain, chance),))
    if isinstance(plain, str):
        return plain
    ranks, parts = plain[0], [otherwise(part, chance) for part in plain[1]]
    chance.shuffle(parts)
    if len(parts) > 2 and ranks in ((1,), (len(parts),)):
        cut = chance.randrange(1, len(parts))
        head = ((1,) if ranks == (1,) else (cut,), tuple(parts[:cut]))
        parts = [head] + parts[cut:]
        ranks = (1,) if ranks == (1,) else (len(parts),)
        chance.shuffle(parts)
    return (ranks, tuple(parts))


def steps(plain):
    """All plain trees that one step of the normal form makes of this one, the last step left out."""
    if isinstance(plain, str):
        return []
    ranks, parts = plain
    found = [parts[0]] if len(parts) == 1 else []
    for at, part in enumerate(parts):
        if not isinstance(part, str):
            opened = parts[:at] + part[1] + parts[at + 1:]
            if ranks == (1,) and part[0] == (1,):
                found.append((ranks, opened))
            if ranks == (len(parts),) and part[0] == (len(part[1]),):
                found.append(((len(opened),), opened))
        found.extend((ranks, parts[:at] + (other,) + parts[at + 1:]) for other in steps(part))
    return found


def in_order(plain):
    if isinstance(plain, str):
        return plain
    return (plain[0], tuple(sorted([in_order(part) for part in plain[1]], key=lambda part: min(plain_names(part)))))


def normal_by_steps(plain, chance):
    """The normal form, by one step after another, each any one of those that apply."""
    following = steps(plain)
    while following:
        plain = chance.choice(following)
        following = steps(plain)
    return in_order(plain)


class Partings(Asking):
    def check(self, one, other, j, k, parted):
        names = plain_names(one)
        found = parting(built(one), built(other), j, k)
        if not parted:
            self.assertIsNone(found, (one, other, j, k))
            return
        self.assertIs(type(found), Lot)
        self.assertEqual(found.names(), sorted(names))
        worths = dict(found.pairs())
        self.assertTrue(all(type(worth) is int and worth in (0, 1) for worth in worths.values()))
        self.assertGreater(plain_ends(one, worths)[j - 1], plain_ends(other, worths)[k - 1], (one, other, j, k))

    def check_all(self, one, other):
        names = sorted(plain_names(one))
        low, beside = ways(one, names), ways(other, names)
        for j, k in product(range(1, plain_width(one) + 1), range(1, plain_width(other) + 1)):
            self.check(one, other, j, k, any(here < j and there >= k for here, there in zip(low, beside)))

    def test_the_example(self):
        one, flat = built(ONE), ((2,), ("a", "b", "c", "d"))
        self.assertEqual([alike(one, built(OTHER)), parting(one, built(flat))], [True, None])
        self.check(flat, ONE, 1, 1, True)

    def test_over_all_sets_of_low_leaves(self):
        for one in plain_trees(tuple("bac"), 2):
            for other in plain_trees(tuple("acb"), 2)[::3]:
                self.check_all(one, other)

    def test_four_leaves(self):
        chance = Random(80)
        trees = [plain for order in ("abcd", "dbca") for plain in plain_trees(tuple(order), 2)]
        for _ in range(400):
            self.check_all(chance.choice(trees), chance.choice(trees))

    def test_one_and_two_leaves(self):
        for one, other in product(small_trees(1) + [chain("b", 70)], repeat=2):
            self.check_all(one, other)
        pairs = plain_trees(tuple("ab"), 2) + plain_trees(tuple("ba"), 1)
        for one, other in product(pairs, repeat=2):
            self.check_all(one, other)

    def test_never_greater_in_lots_of_other_worths_either(self):
        chance = Random(81)
        trees = plain_trees(tuple("bacd"), 2)
        for _ in range(150):
            one, other = chance.choice(trees), chance.choice(trees)
            for j, k in product(range(1, plain_width(one) + 1), range(1, plain_width(other) + 1)):
                lots = [dict(zip("abcd", order)) for order in permutations((1, 2, 3, 4))]
                greater = any(plain_ends(one, worths)[j - 1] > plain_ends(other, worths)[k - 1] for worths in lots)
                self.assertIs(parting(built(one), built(other), j, k) is None, not greater)

    def test_ends_of_one_tree(self):
        tree = built(THREE)
        self.assertEqual([parting(tree, tree, j, k) is None for j, k in product((1, 2), repeat=2)],
                         [True, True, False, True])
        self.check_all(THREE, chain(THREE, 2))

    def test_arguments(self):
        one, other = built(THREE), built(((1, 4), (((2,), ("e", "a")), "b", "d", "c")))
        self.assertEqual(parting(one, other), parting(one, other, 1, 1))
        self.assertEqual(parting(k=2, j=1, other=other, one=one), parting(one, other, 1, 2))
        self.assertEqual([parting(one, other) is None, parting(one, other, 2, 2) is None, parting(one, other, 1, 2)],
                         [False, True, None])
        self.assertEqual(parting(one, other, k=2, j=2), None)


class Alike(Asking):
    def check(self, one, other, told):
        self.assertIs(alike(built(one), built(other)), told, (one, other))
        self.assertIs(alike(other=built(one), one=built(other)), told, (one, other))

    def test_over_all_sets_of_low_leaves(self):
        told = {True: 0, False: 0}
        trees = [(plain, ways(plain, "abc")) for order in ("abc", "cab") for plain in plain_trees(tuple(order), 2)]
        for (one, here), (other, there) in product(trees, trees[::4]):
            same = here == there and plain_width(one) == plain_width(other)
            self.check(one, other, same)
            told[same] += 1
        self.assertGreater(min(told.values()), 100)

    def test_in_every_lot_of_some_trees(self):
        chance = Random(82)
        trees = plain_trees(tuple("bacd"), 2)
        lots = [dict(zip("abcd", order)) for order in permutations((1, 2, 3, 4))]
        by_ends = {}
        for plain in trees:
            by_ends.setdefault(str([plain_ends(plain, worths) for worths in lots]), []).append(plain)
        for _ in range(300):
            one, other = chance.choice(list(by_ends.values())), chance.choice(list(by_ends.values()))
            self.check(chance.choice(one), chance.choice(one), True)
            self.check(chance.choice(one), chance.choice(other), one is other)

    def test_other_numbers_of_ends(self):
        for one, other in ((((1, 2), ("a", "b")), ((1,), ("a", "b"))),
                           (((1, 2, 3), tuple("abc")), ((1, 2), tuple("abc"))),
                           (THREE, ((2,), (THREE,))), (THREE, ((1,), (THREE,)))):
            self.check(one, other, False)

    def test_one_leaf(self):
        self.check("a", "a", True)
        self.check("a", chain("a", 70), True)
        self.check(((1,), ("b",)), "b", True)

    def test_several_ranks(self):
        exchanged = ((2, 3), ("e", ((1, 2, 4), ("d", "c", "b", "a"))))
        self.check(THREE, exchanged, True)
        self.check(chain(THREE, 3), exchanged, True)
        self.check(THREE, ((2, 3), ("e", ((1, 2, 3), ("d", "c", "b", "a")))), False)
        self.check(THREE, ((2, 3), ("a", ((1, 2, 4), ("d", "c", "b", "e")))), False)
        # Here only one of the two trees is simple.
        self.check(((1,), ("a", "b", "c")), ((1,), (((1, 2, 3), ("a", "b", "c")),)), True)
        self.check(((2,), ("a", "b", "c")), ((1,), (((1, 3), ("a", "b", "c")),)), False)
        self.check(((1, 3), ("a", "b", "c")), ((1, 3), (((1, 2), ("c", "a")), "b")), True)

    def test_simple_trees_over_all_sets(self):
        told = {True: 0, False: 0}
        trees = simple_trees(tuple("bacd"), 3)[::7] + simple_trees(tuple("dcab"), 2)[::3]
        trees = [(plain, ways(plain, "abcd")) for plain in trees]
        for (one, here), (other, there) in product(trees[::2], trees[1::5]):
            self.check(one, other, here == there)
            told[here == there] += 1
        self.assertGreater(min(told.values()), 100)

    def test_simple_trees_of_five_leaves(self):
        chance, told = Random(83), {True: 0, False: 0}
        trees = [(plain, ways(plain, "abcde")) for plain in simple_trees(tuple("ebdac"), 2)]
        by_ways = {}
        for plain, low in trees:
            by_ways.setdefault(str(low), []).append(plain)
        for _ in range(1500):
            one, other = chance.choice(list(by_ways.values())), chance.choice(list(by_ways.values()))
            self.check(chance.choice(one), otherwise(chance.choice(one), chance), True)
            self.check(chance.choice(one), otherwise(chance.choice(other), chance), one is other)
            told[one is other] += 1
        self.assertGreater(told[False], 1000)


class Simple(Asking):
    def test_is_simple(self):
        for plain in small_trees(4) + [chain("a", 70), nine_tree(), THREE, chain(nine_tree(), 2), ONE, OTHER]:
            told = all(isinstance(node, str) or len(node[0]) == 1 for node in plain_nodes(plain))
            self.assertIs(is_simple(built(plain)), told)
            self.assertIs(is_simple(tree=built(((1,), (plain,)))), told)
        self.assertIs(is_simple(Leaf("a")), True)

    def test_normal_forms(self):
        for plain, form in (
                ("a", "a"), ("x", "x"), (chain("a", 3), "a"),
                (((1,), ("b", "a")), ((1,), ("a", "b"))),
                (((2,), ("c", "b", "a")), ((2,), ("a", "b", "c"))),
                (((1,), (((1,), ("c", "b")), "a")), ((1,), ("a", "b", "c"))),
                (((2,), ("d", ((2,), ("c", "a")))), ((3,), ("a", "c", "d"))),
                (((2,), ("d", ((1,), ("c", "a")))), ((2,), (((1,), ("a", "c")), "d"))),
                (((1,), ("d", ((2,), ("c", "a")))), ((1,), (((2,), ("a", "c")), "d"))),
                (((2,), ("d", ((2,), ("c", "a")), "b")), ((2,), (((2,), ("a", "c")), "b", "d"))),
                (((2,), ("d", ((2,), ("c", ((2,), ("b", "a")))))), ((4,), ("a", "b", "c", "d"))),
                (((1,), (((1,), (((2,), ("b", "d")),)), ((1,), (((1,), ("c", "a")),)))),
                 ((1,), ("a", ((2,), ("b", "d")), "c"))),
                (((2,), (((1,), (((2,), ("b", "d")),)), ((1,), ("c",)))), ((3,), ("b", "c", "d"))),
                (((1,), (((2,), (((1,), ("b", "e")), "d")), "a")), ((1,), ("a", ((2,), (((1,), ("b", "e")), "d"))))),
                (((2,), ("ab", "b", "aa")), ((2,), ("aa", "ab", "b"))),
                (((2,), (((2,), ("z", "y", "c")), ((2,), ("x", "b", "w")), ((2,), ("a", "v", "u")))),
                 ((2,), (((2,), ("a", "u", "v")), ((2,), ("b", "w", "x")), ((2,), ("c", "y", "z"))))),
                (ONE, ((1,), (((2,), ("a", "c")), "b", "d"))), (OTHER, ((1,), (((2,), ("a", "c")), "b", "d"))),
                (nine_tree(), nine_tree())):
            self.assertEqual(plain_of(normal(built(plain))), form, plain)

    def test_by_single_steps_in_any_order(self):
        chance = Random(84)
        for plain in simple_trees(tuple("cadb"), 3)[::3] + simple_trees(tuple("ebdac"), 2):
            plain = otherwise(plain, chance)
            self.assertEqual(plain_of(normal(tree=built(plain))), normal_by_steps(plain, chance), plain)

    def test_alike_exactly_if_normal_forms_are_equal(self):
        forms = {}
        for plain in simple_trees(tuple("bacd"), 3) + simple_trees(tuple("dbac"), 3)[::5]:
            form = plain_of(normal(built(plain)))
            self.assertEqual(plain_of(normal(built(form))), form)
            forms.setdefault(form, set()).add(tuple(ways(plain, "abcd")))
        self.assertTrue(all(len(found) == 1 for found in forms.values()))
        self.assertEqual(len({way for found in forms.values() for way in found}), len(forms))

    def test_kinds(self):
        found = normal(built(ONE))
        self.assertIs(type(found), Group)
        self.assertIs(type(normal(built(chain("a", 2)))), Leaf)
        self.assertEqual((found.ranks, found.intake, found.width, found.names()), ([1], 3, 1, ["a", "c", "b", "d"]))


class Wrong(Asking):
    def others(self):
        """Trees whose leaves do not have just the names a, b, c, d and e."""
        return [built(plain) for plain in ("a", "f", tuple([(1,), tuple("abcd")]), ((1,), tuple("abcdef")),
                                           ((1,), tuple("abcdf")), ((1, 2), ("a", "b")), ((3,), ("aa", *"bcde")))]

    def test_the_first_tree(self):
        for value in no_trees():
            self.raises(InvalidTree, value, parting, value, built(THREE))
            self.raises(InvalidTree, value, parting, value, None, 0, 0)
            self.raises(InvalidTree, value, parting, one=value, other=Leaf("a"), j=True, k="neither")
            self.raises(InvalidTree, value, alike, value, built(THREE))
            self.raises(InvalidTree, value, alike, other="neither", one=value)
            self.raises(InvalidTree, value, is_simple, value)
            self.raises(InvalidTree, value, normal, value)

    def test_then_the_other_one(self):
        for value in no_trees() + self.others():
            self.raises(InvalidTree, value, parting, built(THREE), value)
            self.raises(InvalidTree, value, parting, built(THREE), value, 0, 0)
            self.raises(InvalidTree, value, parting, one=built(THREE), other=value, j=True, k="neither")
            self.raises(InvalidTree, value, alike, built(THREE), value)
            self.raises(InvalidTree, value, alike, built(((3,), tuple("ebcda"))), other=value)

    def test_then_ends(self):
        one, other = built(THREE), built(((1, 3, 5), tuple("edcba")))
        for j in [0, 3, -1, HUGE, -HUGE] + no_numbers():
            self.raises(InvalidNumber, j, parting, one, other, j)
            self.raises(InvalidNumber, j, parting, one, other, j, 0)
            self.raises(InvalidNumber, j, parting, one, other, j=j, k="neither")
        for k in [0, 4, -1, HUGE, -HUGE] + no_numbers():
            self.raises(InvalidNumber, k, parting, one, other, 1, k)
            self.raises(InvalidNumber, k, parting, one, other, 2, k)
            self.raises(InvalidNumber, k, parting, one, other, k=k)
        parting(one, other, 2, 3)
        self.raises(InvalidNumber, 3, parting, one, other, 3, 3)
        self.raises(InvalidNumber, 3, parting, other, one, 3, 3)

    def test_trees_that_are_not_simple(self):
        for plain in (THREE, chain(THREE, 2), ((1,), (THREE,)), ((1, 2), ("a", "b")), ((1,), (((1, 2), ("a", "b")),)),
                      ((2,), ("c", ((2,), (((1, 3), ("a", "b", "e")), "d"))))):
            tree = built(plain)
            self.raises(InvalidTree, tree, normal, tree)
            self.raises(InvalidTree, tree, normal, tree=tree)
            self.assertIs(is_simple(tree), False)


class Staying(Asking):
    def test_nothing_changes(self):
        one, other, flat = built(ONE), built(OTHER), Group([2], [Leaf(name) for name in "abcd"])
        found = parting(flat, one)
        kept = found.pairs()
        self.assertEqual(parting(Group([2], [Leaf(name) for name in "abcd"]), built(ONE)), found)
        found["a"] = HUGE
        found.drop("b")
        self.assertEqual(parting(flat, one).pairs(), kept)
        form = normal(one)
        form.parts.clear()
        form.ranks.append(2)
        self.assertEqual(normal(other), form)
        self.assertTrue(alike(one, other))
        self.assertEqual([plain_of(one), plain_of(other), flat.names()], [ONE, OTHER, ["a", "b", "c", "d"]])


class Limits(Asking):
    def simple_tree(self):
        """A simple tree at the limits: 40 leaves, 200 nodes and 70 levels of groups."""
        leaves = [chain(name, 3 if at < 5 else 2) for at, name in enumerate(full_names())]
        ranks = ((1,), (3,), (5,), (2,), (5,), (1,), (4,), (3,))
        fives = tuple((ranks[at], tuple(leaves[5 * at:5 * at + 5])) for at in range(8))
        return chain(((1,), (((4,), fives[:4]), ((1,), fives[4:]))), 64)

    def twelve(self, ranks, inner, order=tuple("abcdefghijkl"), levels=0):
        rows = tuple((inner, tuple(order[at:at + 4])) for at in (0, 4, 8))
        return chain((ranks, rows), levels)


class TwelveLeaves(Limits, InTime):
    def in_counts(self, ranks, inner):
        """How many ends are low, for each numbers of low leaves of three groups of four."""
        def passed(many, ranks):
            return len([rank for rank in ranks if rank <= many])

        return {low: passed(sum(passed(many, inner) for many in low), ranks) for low in product(range(5), repeat=3)}

    def test_partings(self):
        shapes = [((1, 2, 3, 4, 5, 6, 7, 8), (1, 2, 4)), ((2, 3, 5), (2, 3)), ((4,), (1, 3, 4)), ((2,), (3,)),
                  (tuple(range(1, 13)), (1, 2, 3, 4))]
        for one, other in product(shapes, repeat=2):
            low, beside = self.in_counts(*one), self.in_counts(*other)
            for j, k in ((1, 1), (len(one[0]), 1), (1, len(other[0])), (len(one[0]), len(other[0]))):
                parted = any(low[way] < j and beside[way] >= k for way in low)
                plains = self.twelve(*one, levels=20), self.twelve(*other, order=tuple("dcbahgfelkji"), levels=10)
                found = parting(built(plains[0]), built(plains[1]), j, k)
                self.assertIs(found is None, not parted)
                if parted:
                    ends = [plain_ends(plain, dict(found.pairs())) for plain in plains]
                    self.assertGreater(ends[0][j - 1], ends[1][k - 1])

    def test_two_hundred_nodes(self):
        leaves = tuple(chain(name, 10) for name in "abcdefghijkl")
        plain = self.twelve((1, 2, 4, 5, 7, 8), (1, 3, 4), leaves, 58)
        self.assertEqual((len(plain_nodes(plain)), plain_levels(plain)), (194, 70))
        other = self.twelve((1, 2, 4, 5, 7, 8), (1, 3, 4), tuple("lkjidcbahgef"))
        self.assertIs(alike(built(plain), built(other)), True)
        for j, k in product(range(1, 7), repeat=2):
            self.assertIs(parting(built(plain), built(other), j, k) is None, j <= k)
        for ranks, order in (((1, 2, 4, 5, 7, 9), "abcdefghijkl"), ((1, 2, 4, 5, 7, 8), "abdefcghijkl")):
            self.assertIs(alike(built(plain), built(self.twelve(ranks, (1, 3, 4), tuple(order)))), False)


class FortyLeaves(Limits, InTime):
    def test_simple_trees_written_otherwise(self):
        plain, chance = self.simple_tree(), Random(85)
        self.assertEqual((len(plain_names(plain)), len(plain_nodes(plain)), plain_levels(plain)), (40, 200, 70))
        tree = built(plain)
        short = plain_of(normal(tree))
        self.assertLess(len(plain_nodes(short)), 60)
        for _ in range(40):
            other = otherwise(otherwise(short, chance), chance)
            self.assertIs(alike(tree, built(other)), True)
            self.assertEqual(plain_of(normal(built(other))), short)

    def test_simple_trees_that_are_not_alike(self):
        plain, chance = self.simple_tree(), Random(86)
        tree, names = built(plain), full_names()
        for _ in range(40):
            one, other = chance.sample(range(40), 2)
            exchanged = tree.renamed([(names[one], names[other]), (names[other], names[one])])
            lots = [Lot([(name, chance.randrange(3)) for name in names]) for _ in range(20)]
            told = alike(tree, exchanged)
            if one // 5 == other // 5:
                self.assertIs(told, True)
            if told:
                self.assertTrue(all(ends_of(tree, lot) == ends_of(exchanged, lot) for lot in lots))
        self.assertIs(alike(tree, tree.renamed([(names[7], names[9]), (names[9], names[7])])), True)
        self.assertIs(alike(tree, tree.renamed([(names[7], names[12]), (names[12], names[7])])), False)
        self.assertIs(alike(tree, tree.mirror()), False)
        self.assertIs(alike(tree, tree.mirror().mirror()), True)

    def test_seventy_levels(self):
        plain, names = full_names()[0], full_names()
        for at in range(1, 40):
            plain = ((1 + at % 2,), (plain, names[at]))
            plain = ((1,), (plain,)) if at < 32 else plain
        tree = built(plain)
        self.assertEqual((plain_levels(plain), len(tree)), (70, 40))
        self.assertIs(is_simple(tree), True)
        form = normal(tree)
        self.assertEqual(form, normal(form))
        self.assertIs(alike(tree, form), True)


if __name__ == "__main__":
    unittest.main()
