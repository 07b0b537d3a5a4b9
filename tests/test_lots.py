"""Promises [20] to [23], and [1] to [3] as far as they bear on lots."""

import unittest
from itertools import product

from asks import Asking
from plain import (built, full_names, full_tree, is_plain_name, no_lots, no_names, no_numbers, no_trees, plain_ends,
                   plain_names, plain_nodes, small_trees, values)
from rankpicks.errors import InvalidList, InvalidLot, InvalidName, InvalidNumber, InvalidTree, Lacking, Unknown
from rankpicks.lots import Lot, end_of, ends_of, lot_of, outs_of
from rankpicks.trees import Group, Leaf

HUGE = 10 ** 40 - 1


def example():
    return Group([1, 3], [Group([2], [Leaf("a"), Leaf("b"), Leaf("c")]), Leaf("d"), Leaf("e")])


def example_lot():
    return Lot([("a", 7), ("b", -1), ("c", 4), ("d", 4), ("e", 9)])


class Making(Asking):
    def test_empty(self):
        for lot in (Lot(), Lot(None), Lot([]), Lot(pairs=None), Lot(pairs=[])):
            self.assertEqual((len(lot), lot.names(), lot.pairs()), (0, [], []))

    def test_pairs_in_any_order(self):
        lot = Lot(pairs=[("c", 1), ("a", 3), ("abcdefgh", -HUGE), ("b", 1)])
        self.assertEqual(lot.pairs(), [("a", 3), ("abcdefgh", -HUGE), ("b", 1), ("c", 1)])

    def test_no_other_pairs(self):
        for pairs in ([("a", 1), ("a", 1)], [("a", 1), ("a", 2)], [["a", 1]], [("a", 1, 2)], [("a",)], [()], ["a1"],
                      (("a", 1),), {"a": 1}, [("A", 1)], [("", 1)], [("abcdefghi", 1)], [("a\n", 1)], [(1, 1)],
                      [(["a"], 1)], [("a", True)], [("a", None)], [("a", "1")], [("a", [1])], [None], [("a", 1), None],
                      [("a", 1), ("b", False)], [("a", 1), ["b", 1]], [[("a", 1)]], "", 0, False, (), {}):
            self.raises(InvalidLot, pairs, Lot, pairs)
            self.raises(InvalidLot, pairs, Lot, pairs=pairs)

    def test_any_value(self):
        for value in values():
            if value is not None and value not in ([], [("a", 1)]):
                self.raises(InvalidLot, value, Lot, value)
            if not is_plain_name(value):
                self.raises(InvalidLot, pairs := [(value, 1)], Lot, pairs)
            if type(value) is not int:
                self.raises(InvalidLot, pairs := [("a", value)], Lot, pairs)


class Worths(Asking):
    def test_reading(self):
        lot = example_lot()
        self.assertEqual([lot[name] for name in "abcde"], [7, -1, 4, 4, 9])
        for value in no_names():
            self.raises(InvalidName, value, lot.__getitem__, value)
        self.raises(Unknown, name := "f", lot.__getitem__, name)
        self.raises(Unknown, name := "a", Lot().__getitem__, name)
        self.assertEqual(lot, example_lot())

    def test_writing(self):
        lot = Lot([("b", 2)])
        lot["b"] = -HUGE
        lot["a"] = 0
        lot["abcdefgh"] = HUGE
        self.assertEqual(lot.pairs(), [("a", 0), ("abcdefgh", HUGE), ("b", -HUGE)])
        self.assertEqual((lot["b"], len(lot)), (-HUGE, 3))

    def test_wrong_writing(self):
        lot = example_lot()
        for value in no_names():
            self.raises(InvalidName, value, lot.__setitem__, value, 1)
            self.raises(InvalidName, value, lot.__setitem__, value, "neither")
        for value in no_numbers():
            self.raises(InvalidNumber, value, lot.__setitem__, "a", value)
            self.raises(InvalidNumber, value, lot.__setitem__, "new", value)
        self.assertEqual(lot.pairs(), example_lot().pairs())

    def test_dropping(self):
        lot = example_lot()
        self.assertIsNone(lot.drop("b"))
        self.assertIsNone(lot.drop(name="e"))
        self.assertEqual(lot.pairs(), [("a", 7), ("c", 4), ("d", 4)])
        self.raises(Unknown, name := "b", lot.drop, name)
        for value in no_names():
            self.raises(InvalidName, value, lot.drop, value)
        self.assertEqual(lot.pairs(), [("a", 7), ("c", 4), ("d", 4)])
        lot["b"] = 3
        self.assertEqual(lot.names(), ["a", "b", "c", "d"])

    def test_contains(self):
        lot = Lot([("b", 0), ("a", 5)])
        for value in values():
            self.assertIs(value in lot, value == "a" or value == "b")
            self.assertIs(value in Lot(), False)
        lot.drop("b")
        lot["c"] = 1
        self.assertEqual([name in lot for name in "abc"], [True, False, True])

    def test_length(self):
        lot = Lot()
        for many, name in enumerate(full_names(), start=1):
            lot[name] = 1
            lot[name] = 2
            self.assertEqual(len(lot), many)

    def test_names_and_pairs_ascend(self):
        lot = Lot([("b", 1), ("ab", 2), ("z", 0), ("a", 9), ("aab", 4)])
        self.assertEqual(lot.names(), ["a", "aab", "ab", "b", "z"])
        self.assertEqual(lot.pairs(), [("a", 9), ("aab", 4), ("ab", 2), ("b", 1), ("z", 0)])
        self.assertTrue(all(type(pair) is tuple for pair in lot.pairs()))

    def test_upto_and_below(self):
        lot = Lot([("a", 7), ("b", -1), ("c", 4), ("d", 4), ("e", HUGE)])
        self.assertEqual([lot.upto(worth) for worth in (-2, -1, 0, 3, 4, 5, 7, HUGE)], [0, 1, 1, 1, 3, 3, 4, 5])
        self.assertEqual([lot.below(worth) for worth in (-2, -1, 0, 3, 4, 5, 7, HUGE)], [0, 0, 1, 1, 1, 3, 3, 4])
        self.assertEqual((lot.upto(worth=4), lot.below(worth=5), lot.below(HUGE + 1)), (3, 3, 5))
        self.assertEqual((Lot().upto(0), Lot().below(0)), (0, 0))

    def test_wrong_upto_and_below(self):
        for value in no_numbers():
            self.raises(InvalidNumber, value, example_lot().upto, value)
            self.raises(InvalidNumber, value, example_lot().below, value)
            self.raises(InvalidNumber, value, Lot().upto, value)
            self.raises(InvalidNumber, value, Lot().below, value)

    def test_equality(self):
        lots = [[], [("a", 1)], [("b", 1)], [("a", 2)], [("a", 1), ("b", 1)], [("a", 1), ("b", 2)]]
        for one, other in product(lots, lots):
            self.assertIs(Lot(one) == Lot(other[::-1]), one == other)
            self.assertIs(Lot(one) != Lot(other[::-1]), one != other)

    def test_a_lot_is_not_equal_to_anything_else(self):
        for lot in (Lot([("x", 1)]), Lot([("a", 2)])):
            for value in values():
                self.assertIs(lot == value, False)
                self.assertIs(value == lot, False)
        for value in (None, [], {}, 0, "", ()):
            self.assertIs(Lot() == value, False)
        for value in ([("a", 1)], {"a": 1}, Leaf("a")):
            self.assertIs(Lot([("a", 1)]) == value, False)

    def test_equality_after_changes(self):
        lot = Lot([("a", 1)])
        lot["b"] = 2
        self.assertEqual(lot, Lot([("b", 2), ("a", 1)]))
        lot.drop("a")
        self.assertEqual(lot, Lot([("b", 2)]))


class Copies(Asking):
    def test_a_copy_goes_on_by_itself(self):
        lot = example_lot()
        other = lot.copy()
        self.assertIs(type(other), Lot)
        self.assertIsNot(other, lot)
        self.assertEqual(other, lot)
        other["a"] = 100
        other["x"] = 1
        other.drop("b")
        self.assertEqual(lot, example_lot())
        lot.drop("c")
        lot["d"] = 5
        self.assertEqual(other.pairs(), [("a", 100), ("c", 4), ("d", 4), ("e", 9), ("x", 1)])

    def test_a_copy_of_an_empty_lot(self):
        lot = Lot()
        other = lot.copy()
        other["a"] = 1
        self.assertEqual((len(lot), len(other)), (0, 1))

    def test_lists_that_are_handed_in_and_returned(self):
        pairs = [("b", 1), ("a", 2)]
        lot = Lot(pairs)
        pairs.append(("c", 3))
        pairs[0] = ("b", 7)
        lot.names().append("x")
        lot.pairs().clear()
        told = lot.names()
        told.clear()
        self.assertEqual((lot.names(), lot.pairs()), (["a", "b"], [("a", 2), ("b", 1)]))

    def test_a_lot_leaves_the_list_as_it_is(self):
        pairs = [("b", 1), ("a", 2)]
        lot = Lot(pairs)
        lot["c"] = 1
        lot.drop("b")
        self.assertEqual(pairs, [("b", 1), ("a", 2)])

    def test_two_lots_of_nothing(self):
        one, other = Lot(), Lot()
        one["a"] = 1
        self.assertEqual(len(other), 0)


class LotOf(Asking):
    def test_names_in_any_order(self):
        self.assertEqual(lot_of(["c", "a", "b"]).pairs(), [("a", 2), ("b", 3), ("c", 1)])
        self.assertEqual(lot_of(names=["abcdefgh"]), Lot([("abcdefgh", 1)]))
        self.assertEqual(lot_of([]), Lot())
        self.assertEqual(lot_of(full_names()).upto(40), 40)

    def test_invalid_lists(self):
        for names in (["a", "a"], ["a", "b", "a"], ["A"], ["a", None], [["a"]], [("a", 1)], ("a",), "ab", {"a": 1}, None,
                      [1], [Leaf("a")]):
            self.raises(InvalidList, names, lot_of, names)
        for value in values():
            if value not in ([], ["a"]):
                self.raises(InvalidList, value, lot_of, value)

    def test_each_lot_is_new(self):
        names = ["a", "b"]
        one, other = lot_of(names), lot_of(names)
        one["a"] = 9
        names.reverse()
        self.assertEqual((other.pairs(), names), ([("a", 1), ("b", 2)], ["b", "a"]))


class Ends(Asking):
    def test_example(self):
        tree, lot = example(), example_lot()
        self.assertEqual([ends_of(tree, lot), outs_of(tree, lot)[:2]], [[4, 9], [[4, 9], [4]]])
        self.assertEqual(outs_of(tree, lot), [[4, 9], [4], [7], [-1], [4], [4], [9]])
        self.assertEqual([end_of(tree, lot), end_of(tree, lot, 1), end_of(tree, lot, j=2)], [4, 4, 9])
        self.assertEqual([ends_of(lot=lot, tree=tree), end_of(j=2, lot=lot, tree=tree)], [[4, 9], 9])
        self.assertEqual(outs_of(lot=lot, tree=tree), outs_of(tree, lot))

    def test_leaf(self):
        lot = Lot([("a", -3)])
        self.assertEqual([ends_of(Leaf("a"), lot), end_of(Leaf("a"), lot), outs_of(Leaf("a"), lot)], [[-3], -3, [[-3]]])

    def compare(self, plain, tree, names, worths):
        by_name = dict(zip(names, worths))
        lot = Lot(list(by_name.items()))
        ends = plain_ends(plain, by_name)
        self.assertEqual(ends_of(tree, lot), ends)
        self.assertEqual([end_of(tree, lot, j) for j in range(1, len(ends) + 1)], ends)
        self.assertEqual(end_of(tree, lot), ends[0])
        self.assertEqual(outs_of(tree, lot), [plain_ends(node, by_name) for node in plain_nodes(plain)])
        for bound in set(worths):
            low = [name for name in names if by_name[name] <= bound]
            self.assertEqual(tree.passes(low), len([end for end in ends if end <= bound]))

    def test_small_trees_against_a_plain_count(self):
        for plain in small_trees(3):
            names = plain_names(plain)
            for worths in product((-HUGE, 0, 2), repeat=len(names)):
                self.compare(plain, built(plain), names, worths)

    def test_larger_trees_against_a_plain_count(self):
        for at, plain in enumerate(small_trees(4)[::5]):
            names = plain_names(plain)
            for worths in list(product((5, -1, 3), repeat=len(names)))[at % 3::4]:
                self.compare(plain, built(plain), names, worths)

    def test_equal_worths_as_often_as_they_come(self):
        tree = Group([1, 2, 3], [Leaf("a"), Leaf("b"), Leaf("c"), Leaf("d")])
        self.assertEqual(ends_of(tree, Lot([("a", 2), ("b", 2), ("c", 1), ("d", 2)])), [1, 2, 2])
        self.assertEqual(ends_of(example(), Lot([(name, 6) for name in "abcde"])), [6, 6])

    def test_long_and_negative_worths(self):
        lot = Lot([("a", HUGE), ("b", -HUGE), ("c", HUGE - 1), ("d", 1 - HUGE), ("e", 0)])
        self.assertEqual(ends_of(example(), lot), [1 - HUGE, HUGE - 1])

    def test_names_that_the_tree_lacks(self):
        lot = example_lot()
        lot["x"] = -100
        lot["aa"] = 100
        self.assertEqual(outs_of(example(), lot), outs_of(example(), example_lot()))
        self.assertEqual((ends_of(example(), lot), end_of(example(), lot, 2)), ([4, 9], 9))

    def test_nothing_changes(self):
        tree, lot = example(), example_lot()
        for item in (ends_of(tree, lot), outs_of(tree, lot), outs_of(tree, lot)[0]):
            item.clear()
        self.assertEqual(lot, example_lot())
        self.assertEqual(tree, example())
        self.assertEqual(ends_of(tree, lot), [4, 9])

    def test_no_list_occurs_twice(self):
        tree = Group([1], [Group([1], [Group([1], [Leaf("a")])])])
        lot = Lot([("a", 3)])
        found = outs_of(tree, lot)
        found[0].append(5)
        found[2].append(7)
        self.assertEqual(found, [[3, 5], [3], [3, 7], [3]])
        self.assertEqual(outs_of(tree, lot), [[3]] * 4)
        self.assertEqual(len({id(ends) for ends in outs_of(tree, lot)}), 4)


class WrongEnds(Asking):
    def test_trees_come_first(self):
        for value in no_trees():
            for call in (ends_of, end_of, outs_of):
                self.raises(InvalidTree, value, call, value, example_lot())
                self.raises(InvalidTree, value, call, value, "neither")
                self.raises(InvalidTree, value, call, tree=value, lot=Lot())
            self.raises(InvalidTree, value, end_of, value, None, 0)

    def test_then_lots(self):
        for value in no_lots():
            for call in (ends_of, end_of, outs_of):
                self.raises(InvalidLot, value, call, example(), value)
                self.raises(InvalidLot, value, call, Leaf("a"), lot=value)
            self.raises(InvalidLot, value, end_of, example(), value, "neither")

    def test_then_ends(self):
        for j in (0, 3, -1, HUGE, -HUGE):
            self.raises(InvalidNumber, j, end_of, example(), example_lot(), j)
            self.raises(InvalidNumber, j, end_of, example(), Lot(), j=j)
        self.raises(InvalidNumber, 2, end_of, Leaf("a"), Lot(), 2)
        for value in no_numbers():
            self.raises(InvalidNumber, value, end_of, example(), example_lot(), value)
            self.raises(InvalidNumber, value, end_of, example(), Lot(), value)

    def test_then_names_that_lack(self):
        tree = example().renamed([("a", "e"), ("e", "a")])
        for call in (ends_of, end_of, outs_of):
            for first, lot in (("e", Lot()), ("e", Lot([("a", 1)])), ("b", Lot([("e", 1), ("x", 2)])),
                               ("a", Lot([(name, 1) for name in "bcde"]))):
                with self.assertRaises(Lacking) as caught:
                    call(tree, lot)
                self.assertIs(type(caught.exception), Lacking)
                self.assertEqual(caught.exception.which, first)
        with self.assertRaises(Lacking):
            end_of(tree, Lot([("x", 1)]), 2)

    def test_refused_calls_change_nothing(self):
        lot = Lot([("a", 1)])
        with self.assertRaises(Lacking):
            ends_of(example(), lot)
        self.assertEqual(lot, Lot([("a", 1)]))


class Limits(Asking):
    def test_a_full_tree(self):
        plain, names = full_tree(), full_names()
        tree = built(plain)
        for step in (1, 3, 7, 40):
            worths = {name: (-1) ** at * (HUGE - at * step % 40) for at, name in enumerate(names)}
            lot = Lot(list(worths.items()))
            for at in range(20):
                lot["beside" + "abcdefghijklmnopqrst"[at]] = at
            self.assertEqual(len(lot), 60)
            self.assertEqual(ends_of(tree, lot), plain_ends(plain, worths))
            self.assertEqual(end_of(tree, lot, 20), plain_ends(plain, worths)[19])
            self.assertEqual(outs_of(tree, lot), [plain_ends(node, worths) for node in plain_nodes(plain)])

    def test_lots_with_long_lists(self):
        pairs = [("a", 1)] * 300
        self.raises(InvalidLot, pairs, Lot, pairs)


if __name__ == "__main__":
    unittest.main()
