"""Promises [111] and [112], and [1] to [3] as far as they bear on desks."""

import unittest
from random import Random

from asks import Asking, InTime
from plain import (built, chain, full_names, full_tree, nine_tree, no_lots, no_names, no_numbers, no_trees, plain_ends,
                   plain_names, plain_of, plain_width, some_trees, values)
from rankpicks.desks import Desk
from rankpicks.errors import InvalidLot, InvalidName, InvalidNumber, InvalidTree, Lacking, Unknown
from rankpicks.lots import Lot
from rankpicks.partial import matters
from rankpicks.texts import read_tree
from rankpicks.trees import Leaf

HUGE = 10 ** 40 - 1
EXAMPLE = ((1, 3), (((2,), ("a", "b", "c")), "d", "e"))
THREE = ((2, 3), (((1, 2, 4), ("a", "b", "c", "d")), "e"))


def example():
    return Desk(built(EXAMPLE), Lot([("a", 4), ("b", 9), ("d", 6), ("x", 1)]))


class PlainDesk:
    """A desk that keeps, for each change, all worths that were there before."""

    def __init__(self, plain, worths):
        self.plain, self.names = plain, plain_names(plain)
        self.worths = {name: worths[name] for name in self.names if name in worths}
        self.past = []

    def change(self, name, worth):
        self.past.append((name, dict(self.worths)))
        self.worths = {other: old for other, old in self.worths.items() if other != name}
        if worth is not None:
            self.worths[name] = worth

    def back(self):
        if not self.past:
            return None
        name, self.worths = self.past.pop()
        return name

    def between(self, j, more=None):
        worths = {**self.worths, **(more or {})}
        found = []
        for far in (-HUGE * 10, HUGE * 10):
            end = plain_ends(self.plain, {**{name: far for name in self.names}, **worths})[j - 1]
            found.append(None if end == far else end)
        return tuple(found)

    def copy(self):
        other = PlainDesk(self.plain, self.worths)
        other.past = list(self.past)
        return other


class Checks(Asking):
    def check(self, desk, plain):
        """Compare all that a desk says with a plain desk."""
        worths = plain.worths
        self.assertEqual([desk[name] for name in plain.names], [worths.get(name) for name in plain.names])
        self.assertEqual([name for name in plain.names + ["x", "zz"] if name in desk],
                         [name for name in plain.names if name in worths])
        self.assertEqual((len(desk), desk.made), (len(worths), len(plain.past)))
        self.assertEqual(desk.lot.pairs(), sorted(worths.items()))
        self.assertIs(type(desk.lot), Lot)
        self.assertEqual(plain_of(desk.tree), plain.plain)
        for j in range(1, plain_width(plain.plain) + 1):
            self.assertEqual(desk.between(j), plain.between(j))
            self.assertEqual(desk.matters(j), matters(built(plain.plain), Lot(list(worths.items())), j))
            if len(worths) == len(plain.names):
                self.assertEqual(desk.end(j), plain_ends(plain.plain, worths)[j - 1])
            else:
                lacking = next(name for name in plain.names if name not in worths)
                with self.assertRaises(Lacking) as caught:
                    desk.end(j)
                self.assertEqual(caught.exception.which, lacking)

    def deed(self, chance, desk, plain, worths):
        """Do one thing to both desks."""
        name, deed = chance.choice(plain.names), chance.randrange(10)
        if deed < 5:
            worth = chance.choice(worths)
            desk[name] = worth
            plain.change(name, worth)
        elif deed < 7:
            self.assertIsNone(desk.forget(name))
            plain.change(name, None)
        elif deed < 9:
            self.assertEqual(desk.back(), plain.back())
        else:
            worth, j = chance.choice(worths), chance.randrange(plain_width(plain.plain)) + 1
            self.assertEqual(desk.what_if(name, worth, j), plain.between(j, {name: worth}))


class Desks(Checks):
    def test_the_example(self):
        desk = Desk(read_tree("(a b c)2"), Lot([("a", 4), ("z", 1)]))
        desk["b"] = 9
        self.assertEqual([desk.between(), len(desk), desk.made, desk.back(), desk.between()],
                         [(4, 9), 2, 1, "b", (None, None)])

    def test_beside_a_plain_desk(self):
        chance = Random(111)
        for plain in some_trees()[::60] + [EXAMPLE, THREE, nine_tree(), "a", chain("b", 3), chain(THREE, 2)]:
            names = plain_names(plain)
            worths = {name: chance.randrange(5) for name in chance.sample(names, chance.randrange(len(names) + 1))}
            desk, beside = Desk(built(plain), Lot(list(worths.items()) + [("x", 2)])), PlainDesk(plain, worths)
            self.check(desk, beside)
            for _ in range(40):
                self.deed(chance, desk, beside, (0, 2, 4, -HUGE, HUGE))
                self.check(desk, beside)

    def test_copies_go_on_by_themselves(self):
        chance = Random(112)
        for plain in (EXAMPLE, THREE, "a"):
            pairs = [(Desk(built(plain)), PlainDesk(plain, {}))]
            for _ in range(60):
                desk, beside = chance.choice(pairs)
                if len(pairs) < 6 and chance.randrange(5) == 0:
                    pairs.append((desk.copy(), beside.copy()))
                self.deed(chance, desk, beside, (1, 2, 3))
                for desk, beside in pairs:
                    self.check(desk, beside)
            for desk, beside in pairs:
                for _ in range(len(beside.past) + 1):
                    self.assertEqual(desk.back(), beside.back())
                self.check(desk, beside)

    def test_making(self):
        tree = built(EXAMPLE)
        for desk in (Desk(tree), Desk(tree, None), Desk(tree, Lot()), Desk(lot=Lot([("x", 1)]), tree=tree)):
            self.assertEqual((len(desk), desk.made, desk.lot, desk.back()), (0, 0, Lot(), None))
            self.assertEqual([desk[name] for name in "abcde"], [None] * 5)
            self.assertEqual([desk.between(j) for j in (1, 2)], [(None, None)] * 2)
            self.assertEqual(desk.matters(), list("abcde"))
            self.assertIs(desk.tree, tree)
        desk = example()
        self.assertEqual((desk.lot, len(desk), desk.made), (Lot([("a", 4), ("b", 9), ("d", 6)]), 3, 0))

    def test_what_is_in_a_desk(self):
        desk = example()
        self.assertEqual([name for name in "abcdex" if name in desk], ["a", "b", "d"])
        for value in values():
            self.assertIs(value in desk, type(value) is str and value in ("a", "b", "d"))
        for name in "abd":
            desk.forget(name)
        for value in values():
            self.assertIs(value in desk, False)

    def test_every_change_counts(self):
        desk = example()
        desk["a"] = 4
        desk["a"] = 4
        self.assertIsNone(desk.forget("c"))
        desk.forget("c")
        self.assertEqual((desk.made, len(desk), desk["a"], desk["c"]), (4, 3, 4, None))
        self.assertEqual([desk.back() for _ in range(6)], ["c", "c", "a", "a", None, None])
        self.assertEqual((desk.made, desk.lot), (0, example().lot))

    def test_changes_and_back(self):
        desk = example()
        desk["c"] = 5
        desk["a"] = -1
        desk.forget("b")
        desk["b"] = 0
        self.assertEqual((desk.made, desk.lot.pairs()), (4, [("a", -1), ("b", 0), ("c", 5), ("d", 6)]))
        told = []
        for _ in range(4):
            told.append((desk.back(), desk.made, desk.lot.pairs()))
        self.assertEqual(told, [("b", 3, [("a", -1), ("c", 5), ("d", 6)]),
                                ("b", 2, [("a", -1), ("b", 9), ("c", 5), ("d", 6)]),
                                ("a", 1, [("a", 4), ("b", 9), ("c", 5), ("d", 6)]),
                                ("c", 0, [("a", 4), ("b", 9), ("d", 6)])])
        desk["e"] = 1
        self.assertEqual((desk.made, desk.back(), desk.made, desk.back()), (1, "e", 0, None))

    def test_what_if(self):
        desk = example()
        desk["e"] = 8
        kept = (desk.lot, desk.made)
        self.assertEqual([desk.what_if("c", 5), desk.what_if("c", 5, 2), desk.what_if("c", 4, j=1),
                          desk.what_if(worth=9, name="d", j=2)], [(5, 5), (8, 8), (4, 4), (9, 9)])
        self.assertEqual(desk.what_if("a", 100), (6, 6))
        self.assertEqual(desk.what_if("e", 0), (0, 0))
        self.assertEqual((desk.lot, desk.made, desk.back()), kept + ("e",))

    def test_told_ends(self):
        desk = example()
        self.assertEqual([desk.between(), desk.between(2), desk.matters(j=2)], [(None, 6), (6, None), ["c", "e"]])
        desk["c"], desk["e"] = 5, 5
        self.assertEqual([desk.end(), desk.end(2), desk.end(j=1), desk.between(j=2), desk.matters()],
                         [5, 6, 5, (6, 6), []])

    def test_one_leaf(self):
        for levels in (0, 1, 70):
            desk = Desk(built(chain("b", levels)))
            self.assertEqual((desk.between(), desk.matters(), "b" in desk), ((None, None), ["b"], False))
            for worth in (0, HUGE, -HUGE):
                self.assertEqual(desk.what_if("b", worth), (worth, worth))
                desk["b"] = worth
                self.assertEqual((desk.end(), desk["b"], desk.matters(), len(desk)), (worth, worth, [], 1))
            self.assertEqual([desk.back(), desk["b"]], ["b", HUGE])

    def test_copy(self):
        desk = example()
        desk["c"] = 5
        copy = desk.copy()
        self.assertIs(type(copy), Desk)
        self.assertIsNot(copy, desk)
        self.assertEqual((copy.tree, copy.lot, copy.made), (desk.tree, desk.lot, 1))
        copy["c"] = 7
        copy.forget("a")
        self.assertEqual((desk["c"], desk["a"], desk.made, copy["c"], copy["a"], copy.made), (5, 4, 1, 7, None, 3))
        self.assertEqual([desk.back(), desk.back()], ["c", None])
        self.assertEqual([copy.back(), copy.back(), copy.back(), copy.back()], ["a", "c", "c", None])
        self.assertEqual((desk.lot, copy.lot), (example().lot, example().lot))


class Wrong(Checks):
    def test_trees_come_first(self):
        for value in no_trees():
            self.raises(InvalidTree, value, Desk, value)
            self.raises(InvalidTree, value, Desk, value, "neither")
            self.raises(InvalidTree, value, Desk, lot=0, tree=value)

    def test_then_lots(self):
        for value in no_lots():
            if value is not None:
                self.raises(InvalidLot, value, Desk, built(EXAMPLE), value)
                self.raises(InvalidLot, value, Desk, lot=value, tree=Leaf("a"))
        self.raises(InvalidLot, desk := example(), Desk, built(EXAMPLE), desk)

    def calls(self, desk):
        """What takes a name, each with arguments behind it that are wrong as well, if there are any."""
        return [(desk.__getitem__, ()), (desk.forget, ()), (desk.__setitem__, (1,)), (desk.__setitem__, ("neither",)),
                (desk.what_if, (1,)), (desk.what_if, ("neither", 0)), (desk.what_if, (1, "neither"))]

    def test_names(self):
        desk = example()
        desk["c"] = 3
        for call, behind in self.calls(desk):
            for value in no_names():
                self.raises(InvalidName, value, call, value, *behind)
            for name in ("f", "x", "aa", "abcdefgh"):
                self.raises(Unknown, name, call, name, *behind)
        self.raises(InvalidName, None, desk.what_if, worth=1, name=None)
        self.raises(InvalidName, True, desk.forget, name=True)
        self.assertEqual((desk.made, len(desk)), (1, 4))

    def test_then_worths_then_ends(self):
        desk = example()
        for value in no_numbers():
            for name in ("a", "c"):
                self.raises(InvalidNumber, value, desk.__setitem__, name, value)
                self.raises(InvalidNumber, value, desk.what_if, name, value)
                self.raises(InvalidNumber, value, desk.what_if, j=0, worth=value, name=name)
        for j in [0, 3, -1, HUGE, -HUGE] + no_numbers():
            self.raises(InvalidNumber, j, desk.what_if, "a", 1, j)
            self.raises(InvalidNumber, j, desk.what_if, "c", 1, j=j)
            for call in (desk.between, desk.matters, desk.end):
                self.raises(InvalidNumber, j, call, j)
                self.raises(InvalidNumber, j, call, j=j)
        self.assertEqual((desk.made, desk.lot), (0, example().lot))

    def test_ends_come_before_lacking_worths(self):
        desk = example()
        for first in ("c", "e"):
            with self.assertRaises(Lacking) as caught:
                desk.end(2)
            self.assertIs(type(caught.exception), Lacking)
            self.assertEqual(caught.exception.which, first)
            desk[first] = 0
        for j in (0, 3, True):
            self.raises(InvalidNumber, j, desk.end, j)
        self.assertEqual([desk.end(), desk.end(2)], [0, 6])

    def test_calls_that_raise_change_nothing(self):
        desk, beside = example(), PlainDesk(EXAMPLE, {"a": 4, "b": 9, "d": 6})
        desk["e"] = 2
        beside.change("e", 2)
        for call, args in ((desk.__setitem__, ("x", 1)), (desk.__setitem__, ("a", True)), (desk.forget, ("x",)),
                           (desk.__setitem__, ("A", 1)), (desk.forget, (1,)), (desk.what_if, ("a", None)),
                           (desk.what_if, ("a", 1, 3)), (desk.what_if, ("x", 1)), (desk.__getitem__, ("x",)),
                           (desk.end, ()), (desk.end, (3,)), (desk.between, (0,)), (desk.matters, (None,))):
            with self.assertRaises((InvalidName, InvalidNumber, Unknown, Lacking)):
                call(*args)
            self.check(desk, beside)


class Staying(Checks):
    def test_what_is_handed_in_and_out(self):
        lot, tree = Lot([("a", 4), ("b", 9), ("x", 1)]), built(EXAMPLE)
        desk = Desk(tree, lot)
        lot["a"] = 100
        lot["c"] = 100
        lot.drop("b")
        self.check(desk, PlainDesk(EXAMPLE, {"a": 4, "b": 9}))
        desk["d"] = 5
        self.assertEqual(lot.pairs(), [("a", 100), ("c", 100), ("x", 1)])
        told = desk.lot
        told["a"] = -5
        told["e"] = 5
        told.drop("d")
        desk.matters().clear()
        self.assertIsNot(desk.lot, desk.lot)
        self.assertEqual((desk.lot.pairs(), desk.made), ([("a", 4), ("b", 9), ("d", 5)], 1))
        told = desk.lot
        desk["a"] = 0
        self.assertEqual(told["a"], 4)
        self.assertEqual(plain_of(tree), EXAMPLE)

    def test_two_desks_of_one_tree_and_one_lot(self):
        tree, lot = built(EXAMPLE), Lot([("a", 4)])
        one, other = Desk(tree, lot), Desk(tree, lot)
        one["a"] = 5
        one["b"] = 5
        self.assertEqual((other.lot, other.made, one.made, lot), (Lot([("a", 4)]), 0, 2, Lot([("a", 4)])))


class Limits(Checks, InTime):
    def test_a_full_tree(self):
        plain, names, chance = full_tree(), full_names(), Random(113)
        desk, beside = Desk(built(plain)), PlainDesk(plain, {})
        for at, name in enumerate(names):
            desk[name] = (at * 17) % 40 * (HUGE // 40)
            beside.change(name, (at * 17) % 40 * (HUGE // 40))
            if at % 8 == 7:
                j = chance.randrange(20) + 1
                self.assertEqual(desk.between(j), beside.between(j))
                self.assertEqual(desk.what_if(name, -HUGE, j), beside.between(j, {name: -HUGE}))
                self.assertLessEqual(set(desk.matters(j)), set(names[at + 1:]))
        self.assertEqual([desk.end(j) for j in range(1, 21)], plain_ends(plain, beside.worths))
        for _ in range(1500):
            self.deed(chance, desk, beside, (-HUGE, 0, HUGE))
        self.assertEqual((desk.made, desk.lot.pairs()), (len(beside.past), sorted(beside.worths.items())))
        while beside.past:
            self.assertEqual(desk.back(), beside.back())
        self.assertEqual((desk.back(), len(desk)), (None, len(beside.worths)))


if __name__ == "__main__":
    unittest.main()
