"""Promises [10] to [15], and [1] to [3] as far as they bear on trees."""

import unittest

from asks import Asking
from plain import (built, chain, full_names, full_tree, is_plain_name, no_names, no_numbers, no_trees, plain_ends,
                   plain_levels, plain_names, plain_nodes, plain_of, plain_put, plain_trees, plain_width,
                   rank_choices, small_trees, subsets, values)
from rankpicks.errors import InvalidList, InvalidName, InvalidNumber, InvalidTree, Unknown
from rankpicks.lots import Lot
from rankpicks.trees import Group, Leaf, Tree

HUGE = 10 ** 40


def example():
    return Group([1, 3], [Group([2], [Leaf("a"), Leaf("b"), Leaf("c")]), Leaf("d"), Leaf("e")])


class Making(Asking):
    def test_trees_are_leaves_and_groups(self):
        self.assertTrue(issubclass(Leaf, Tree) and issubclass(Group, Tree))
        self.assertFalse(issubclass(Leaf, Group) or issubclass(Group, Leaf))

    def test_there_are_no_other_trees(self):
        with self.assertRaises(TypeError):
            Tree()
        bare = Tree.__new__(Tree)
        self.raises(InvalidTree, bare, Leaf("a").put, "a", bare)

    def test_names_of_leaves(self):
        for name in ("a", "z", "ab", "zzzzzzzz", "abcdefgh"):
            self.assertEqual(Leaf(name).name, name)

    def test_no_other_names(self):
        for value in no_names():
            self.raises(InvalidName, value, Leaf, value)
            self.raises(InvalidName, value, Leaf, name=value)

    def test_each_sign_beside_the_small_letters(self):
        for sign in [chr(code) for code in range(32, 127)] + ["\n"]:
            for name in (sign, "a" + sign, sign + "a", "abc" + sign + "defg"):
                if is_plain_name(sign):
                    self.assertEqual(Leaf(name).name, name)
                else:
                    self.raises(InvalidName, name, Leaf, name)

    def test_a_group_by_position_and_by_name(self):
        one = Group([2], [Leaf("a"), Leaf("b")])
        other = Group(parts=[Leaf(name="a"), Leaf("b")], ranks=[2])
        self.assertEqual(one, other)

    def test_one_part_one_rank_and_all_ranks(self):
        self.assertEqual(Group([1], [Leaf("a")]).ranks, [1])
        parts = [Leaf("a"), Group([1, 3], [Leaf("b"), Leaf("c"), Leaf("d")]), Leaf("e")]
        for ranks in rank_choices(4):
            self.assertEqual(Group(list(ranks), parts).ranks, list(ranks))

    def refused(self, ranks, parts):
        with self.assertRaises(InvalidTree) as caught:
            Group(ranks, parts)
        self.assertIs(type(caught.exception), InvalidTree)
        self.assertIs(type(caught.exception.value), tuple)
        self.assertEqual(len(caught.exception.value), 2)
        self.assertIs(caught.exception.value[0], ranks)
        self.assertIs(caught.exception.value[1], parts)

    def test_ranks_that_do_not_fit(self):
        three = [Leaf("a"), Group([1, 2], [Leaf("b"), Leaf("c"), Leaf("d")])]
        for ranks in ([], [0], [4], [-1], [1, 4], [0, 1], [2, 1], [1, 1], [1, 3, 2], [1, 2, 2], [1, 2, 3, 4], [HUGE],
                      [True], [1, True], [True, 2], [False], [None], ["1"], [[1]], [(1,)], [1, None], [1, "2"], (1,),
                      (1, 2), 1, "1", {1: 1}, [Leaf("a")], [1, Lot()]):
            self.refused(ranks, three)
        for value in values():
            if repr(value) != "[1]":
                self.refused(value, three)

    def test_parts_that_do_not_fit(self):
        for parts in ([], (Leaf("a"),), Leaf("a"), [Leaf("a"), Leaf("a")], ["a"], [[Leaf("a")]], [(Leaf("a"),)],
                      [Leaf("a"), None], [None, Leaf("a")], [Leaf("a"), Group([1], [Leaf("b"), Leaf("a")])],
                      [Group([1], [Leaf("a")]), Group([1], [Leaf("a")])], {0: Leaf("a")}, [Lot([("a", 1)])]):
            self.refused([1], parts)
        for value in values():
            self.refused([1], value)
            self.refused(value, value)

    def test_both_arguments_wrong(self):
        self.refused("x", 7)
        self.refused([9], [Leaf("a"), Leaf("a")])

    def test_a_name_may_not_occur_twice_however_deep(self):
        deep = built(chain("c", 50))
        self.refused([1], [Leaf("a"), Leaf("b"), deep, Leaf("c")])
        self.assertEqual(Group([1], [Leaf("a"), deep]).names(), ["a", "c"])


class Telling(Asking):
    def test_example(self):
        tree = example()
        self.assertEqual([tree.width, tree.intake, tree.passes(["a", "b", "d"])], [2, 3, 1])
        self.assertEqual([tree.ranks, len(tree), tree.names()], [[1, 3], 5, ["a", "b", "c", "d", "e"]])
        self.assertEqual([tree.parts[0].ranks, tree.parts[0].width, tree.parts[0].intake], [[2], 1, 3])

    def test_leaf(self):
        leaf = Leaf("abc")
        self.assertEqual([leaf.name, leaf.width, len(leaf), leaf.names(), leaf.nodes()], ["abc", 1, 1, ["abc"], [leaf]])

    def test_small_trees(self):
        for plain in small_trees(4):
            tree = built(plain)
            names = plain_names(plain)
            self.assertEqual((tree.width, len(tree), tree.names()), (plain_width(plain), len(names), names))
            if isinstance(tree, Group):
                self.assertEqual(tree.intake, sum(plain_width(part) for part in plain[1]))
                self.assertEqual((tree.ranks, plain_of(tree)), (list(plain[0]), plain))
            for number in (tree.width, len(tree)):
                self.assertIs(type(number), int)

    def test_names_stand_as_the_leaves_do(self):
        tree = built(((1,), ("d", ((1,), ("c", "a")), "b")))
        self.assertEqual(tree.names(), ["d", "c", "a", "b"])

    def test_contains(self):
        tree = example()
        self.assertEqual([name in tree for name in "abcdef"], [True] * 5 + [False])
        self.assertIs("d" in tree, True)
        self.assertIs("a" in Leaf("a"), True)
        for value in values():
            self.assertIs(value in tree, value == "a" or value == "b")
            self.assertIs(value in Leaf("b"), value == "b")
        self.assertNotIn(Leaf("d"), tree)

    def test_items(self):
        parts = [Leaf("a"), Group([1, 2], [Leaf("b"), Leaf("c")]), Leaf("d")]
        tree = Group([1, 4], parts)
        self.assertEqual([tree[0], tree[1], tree[2]], parts)
        self.assertEqual(tree[1][1].name, "c")
        for k in (-1, -3, 3, 4, HUGE, -HUGE):
            self.raises(InvalidNumber, k, tree.__getitem__, k)
            with self.assertRaises(InvalidNumber):
                tree[k]
        for value in no_numbers():
            self.raises(InvalidNumber, value, tree.__getitem__, value)
        self.raises(InvalidNumber, 1, Group([1], [tree]).__getitem__, 1)

    def test_equality_of_small_trees(self):
        plains = small_trees(3) + plain_trees(tuple("abc"), 1) + ["c", ((1,), ("b", "c"))]
        trees = [built(plain) for plain in plains]
        for one, tree in zip(plains, trees):
            for two, other in zip(plains, trees):
                self.assertIs(tree == other, one == two)
                self.assertIs(tree != other, one != two)

    def test_equality_looks_at_the_order_of_the_parts(self):
        a, b = Leaf("a"), Leaf("b")
        self.assertNotEqual(Group([1], [a, b]), Group([1], [b, a]))
        self.assertNotEqual(Group([1], [a, b]), Group([1], [a]))
        self.assertNotEqual(Group([1], [a, b]), Group([2], [a, b]))
        self.assertNotEqual(Group([1], [a]), a)

    def test_a_tree_is_not_equal_to_anything_else(self):
        for tree in (Leaf("c"), example()):
            for value in values():
                self.assertIs(tree == value, False)
                self.assertIs(value == tree, False)
        self.assertIs(Leaf("a") == "a", False)
        self.assertIs(Leaf("a") == Lot([("a", 1)]), False)


class Passing(Asking):
    def test_against_a_plain_count(self):
        for plain in small_trees(4):
            tree = built(plain)
            names = plain_names(plain)
            for low in subsets(names):
                worths = {name: 0 if name in low else 1 for name in names}
                found = tree.passes(low)
                self.assertEqual(found, plain_ends(plain, worths).count(0), (plain, low))
                self.assertIs(type(found), int)
                self.assertEqual(tree.passes(low[::-1]), found)

    def test_one_more_low_leaf_raises_it_by_0_or_1(self):
        for plain in small_trees(4):
            tree = built(plain)
            names = plain_names(plain)
            for low in subsets(names):
                steps = {tree.passes(low + [name]) - tree.passes(low) for name in names if name not in low}
                self.assertLessEqual(steps, {0, 1})

    def test_none_and_all(self):
        for tree in (Leaf("a"), example()):
            self.assertEqual([tree.passes([]), tree.passes(names=tree.names())], [0, tree.width])

    def test_invalid_lists(self):
        for tree in (example(), Leaf("a")):
            for names in (["a", "a"], ["a", "x"], ["x"], ["a", None], ["A"], ("a",), "a", {"a": 1}, [["a"]], [("a",)],
                          ["a", Leaf("a")], [Leaf("a")], [1], None):
                self.raises(InvalidList, names, tree.passes, names)
            for value in values():
                if value not in ([], ["a"]):
                    self.raises(InvalidList, value, tree.passes, names=value)

    def test_a_name_of_another_leaf(self):
        self.raises(InvalidList, wrong := ["a", "f"], example().passes, wrong)
        self.raises(InvalidList, wrong := ["b"], Leaf("a").passes, wrong)


class Nodes(Asking):
    def test_example(self):
        tree = example()
        inner = Group([2], [Leaf("a"), Leaf("b"), Leaf("c")])
        self.assertEqual(tree.nodes(), [tree, inner, Leaf("a"), Leaf("b"), Leaf("c"), Leaf("d"), Leaf("e")])

    def test_small_trees(self):
        for plain in small_trees(4):
            self.assertEqual([plain_of(node) for node in built(plain).nodes()], plain_nodes(plain))

    def test_each_group_is_followed_at_once_by_what_is_within(self):
        plain = ((1,), (((1,), (((1,), ("a", "b")), "c")), "d", ((2,), ("e", "f"))))
        self.assertEqual([plain_of(node) for node in built(plain).nodes()], plain_nodes(plain))


class Mirrors(Asking):
    def test_example(self):
        found = example().mirror()
        self.assertEqual(found.ranks, [1, 3])
        self.assertEqual(Group([1, 2], found.parts).mirror(), Group([2, 3], example().parts))

    def test_leaf(self):
        self.assertEqual(Leaf("a").mirror(), Leaf("a"))

    def test_small_trees(self):
        for plain in small_trees(4):
            tree = built(plain)
            found = tree.mirror()
            self.assertEqual(found.names(), tree.names())
            self.assertEqual(found.mirror(), tree)
            for node, other in zip(tree.nodes(), found.nodes()):
                self.assertIs(type(node), type(other))
                if isinstance(node, Group):
                    ranks = [rank for rank in range(1, node.intake + 1) if node.intake + 1 - rank in node.ranks]
                    self.assertEqual((other.ranks, other.intake), (ranks, node.intake))

    def test_ends_of_the_mirror_in_turned_worths(self):
        for plain in small_trees(4):
            names = plain_names(plain)
            worths = {name: at for at, name in enumerate(names)}
            turned = {name: -worth for name, worth in worths.items()}
            ends = plain_ends(plain_of(built(plain).mirror()), turned)
            self.assertEqual([-end for end in reversed(ends)], plain_ends(plain, worths))


class Renaming(Asking):
    def test_some_names(self):
        found = example().renamed([("e", "new"), ("a", "abcdefgh")])
        self.assertEqual(found.names(), ["abcdefgh", "b", "c", "d", "new"])
        self.assertEqual(found, Group([1, 3], [Group([2], [Leaf("abcdefgh"), Leaf("b"), Leaf("c")]), Leaf("d"),
                                               Leaf("new")]))

    def test_no_names(self):
        for tree in (example(), Leaf("a")):
            self.assertEqual(tree.renamed([]), tree)

    def test_leaf(self):
        self.assertEqual(Leaf("a").renamed(pairs=[("a", "b")]), Leaf("b"))
        self.assertEqual(Leaf("a").renamed([("a", "a")]), Leaf("a"))

    def test_exchange_and_ring(self):
        tree = example()
        self.assertEqual(tree.renamed([("a", "e"), ("e", "a")]).names(), ["e", "b", "c", "d", "a"])
        self.assertEqual(tree.renamed([("a", "b"), ("b", "d"), ("d", "a")]).names(), ["b", "d", "c", "a", "e"])
        self.assertEqual(tree.renamed([("a", "b"), ("b", "x")]).names(), ["b", "x", "c", "d", "e"])
        self.assertEqual(tree.renamed([("b", "b")]), tree)

    def test_a_name_at_two_leaves(self):
        for pairs in ([("a", "b")], [("a", "x"), ("b", "x")], [("a", "b"), ("b", "c")], [("d", "e"), ("e", "e")]):
            self.raises(InvalidList, pairs, example().renamed, pairs)

    def test_invalid_lists(self):
        for pairs in ([("x", "y")], [("a", "y"), ("x", "z")], [("a", "x"), ("a", "y")], [("a", "x"), ("a", "x")],
                      [("a", "X")], [("a", "")], [("a", "abcdefghi")], [("a", None)], [("a", 1)], [("a", ["x"])],
                      [("A", "x")], [(None, "x")], [(["a"], "x")], [["a", "x"]], [("a", "x", "y")], [("a",)], [()],
                      ["ax"], (("a", "x"),), {"a": "x"}, [None], [("a", "x"), None], [("x", "a")],
                      [(Leaf("a"), "x")], [("a", Leaf("x"))]):
            self.raises(InvalidList, pairs, example().renamed, pairs)
            self.raises(InvalidList, pairs, Leaf("a").renamed, pairs)

    def test_any_value(self):
        for value in values():
            if value != []:
                self.raises(InvalidList, value, example().renamed, pairs=value)
            for tree in (example(), Leaf("a")):
                if not is_plain_name(value):
                    self.raises(InvalidList, pairs := [("a", value)], tree.renamed, pairs)
                    self.raises(InvalidList, pairs := [(value, "a")], tree.renamed, pairs)


class Putting(Asking):
    def test_in_a_group(self):
        other = Group([2], [Leaf("x"), Leaf("y")])
        self.assertEqual(example().put("b", other).names(), ["a", "x", "y", "c", "d", "e"])
        self.assertEqual(example().put("b", other), built(((1, 3), (((2,), ("a", ((2,), ("x", "y")), "c")), "d", "e"))))
        self.assertEqual(example().put(other=Leaf("x"), name="e").names(), ["a", "b", "c", "d", "x"])

    def test_in_a_leaf(self):
        other = example().parts[0]
        self.assertEqual(Leaf("x").put("x", other), other)
        self.assertEqual(Leaf("a").put("a", other), other)

    def test_with_the_name_of_the_leaf_that_it_replaces(self):
        other = Group([1], [Leaf("x"), Leaf("d")])
        self.assertEqual(example().put("d", other).names(), ["a", "b", "c", "x", "d", "e"])
        self.assertEqual(example().put("d", Leaf("d")), example())

    def test_small_trees(self):
        others = [plain for plain in ["x", ((1,), ("x",)), ((2,), ("y", "x", "z"))]]
        for plain in small_trees(3):
            for name in plain_names(plain):
                for other in others + [((2,), ("x", name))]:
                    found = built(plain).put(name, built(other))
                    self.assertEqual(plain_of(found), plain_put(plain, name, other))

    def test_ends(self):
        plain, other = plain_of(example()), ((2,), ("x", "y", "z"))
        worths = {"a": 5, "c": 3, "d": 4, "e": 1, "x": 9, "y": 2, "z": 7}
        found = plain_of(example().put("b", built(other)))
        self.assertEqual(plain_ends(found, worths), plain_ends(plain, {**worths, "b": 7}))

    def test_invalid_names(self):
        for tree in (example(), Leaf("a")):
            for value in no_names():
                self.raises(InvalidName, value, tree.put, value, Leaf("x"))
                self.raises(InvalidName, value, tree.put, value, "neither")

    def test_unknown_names(self):
        for other in (Leaf("x"), Leaf("a"), None, "x", 7):
            self.raises(Unknown, name := "f", example().put, name, other)
            self.raises(Unknown, name := "b", Leaf("a").put, name, other)

    def test_invalid_trees(self):
        for tree in (example(), Leaf("a")):
            for value in no_trees():
                self.raises(InvalidTree, value, tree.put, "a", value)

    def test_trees_of_another_width(self):
        other = Group([1, 2], [Leaf("x"), Leaf("y")])
        for tree in (example(), Leaf("a")):
            self.raises(InvalidTree, other, tree.put, "a", other)
        self.assertEqual(Leaf("a").put("a", Group([1], [other])), Group([1], [other]))

    def test_names_of_another_leaf(self):
        for other in (Leaf("b"), Leaf("e"), Group([1], [Leaf("x"), Leaf("c")]), Group([1], [Leaf("a"), Leaf("b")])):
            self.raises(InvalidTree, other, example().put, "a", other)


class Staying(Asking):
    """Nothing that is done with a tree changes it."""

    def test_lists_that_are_handed_in(self):
        ranks, inner, parts = [1, 3], [Leaf("a"), Leaf("b")], [Leaf("c")]
        parts.append(Group([1, 2], inner))
        tree = Group(ranks, parts)
        kept = plain_of(tree)
        ranks.append(7)
        ranks[0] = 2
        inner.pop()
        parts.clear()
        self.assertEqual(plain_of(tree), kept)
        self.assertEqual((tree.names(), len(tree), tree.width, tree.intake), (["c", "a", "b"], 3, 2, 3))

    def test_lists_that_are_returned(self):
        for tree in (example(), Leaf("a"), built(full_tree())):
            kept = plain_of(tree)
            told = [tree.names(), tree.nodes()]
            if isinstance(tree, Group):
                told += [tree.ranks, tree.parts]
            copies = [list(items) for items in told]
            for items in told:
                items.reverse()
                items.append("x")
                del items[0]
            self.assertEqual(plain_of(tree), kept)
            again = [tree.names(), tree.nodes()] + ([tree.ranks, tree.parts] if isinstance(tree, Group) else [])
            self.assertEqual(again, copies)

    def test_lists_for_methods_stay_as_they_are(self):
        names, pairs = ["e", "a"], [("e", "x"), ("a", "y")]
        found = example().renamed(pairs)
        example().passes(names)
        self.assertEqual((names, pairs), (["e", "a"], [("e", "x"), ("a", "y")]))
        pairs.clear()
        self.assertEqual(found.names(), ["y", "b", "c", "d", "x"])

    def test_methods_leave_the_tree_as_it_is(self):
        tree, other = example(), Group([1], [Leaf("x"), Leaf("a")])
        kept, put = plain_of(tree), plain_of(other)
        tree.mirror()
        tree.renamed([("a", "b"), ("b", "a")])
        tree.put("a", other)
        self.assertEqual((plain_of(tree), plain_of(other)), (kept, put))

    def test_refused_calls_leave_the_tree_as_it_is(self):
        tree = example()
        kept = plain_of(tree)
        for call, args in ((tree.passes, ["x"]), (tree.renamed, [[("a", "b")]]), (tree.put, ["a", Leaf("b")])):
            with self.assertRaises(ValueError):
                call(*args)
        self.assertEqual((plain_of(tree), tree.names()), (kept, ["a", "b", "c", "d", "e"]))

    def test_attributes_cannot_be_assigned(self):
        with self.assertRaises(AttributeError):
            Leaf("a").name = "b"
        for tree in (Leaf("a"), example()):
            with self.assertRaises(AttributeError):
                tree.width = 3
        for name in ("ranks", "parts", "intake"):
            with self.assertRaises(AttributeError):
                setattr(example(), name, [1])


class Limits(Asking):
    def test_the_tree_is_at_the_limits(self):
        plain = full_tree()
        self.assertEqual((len(plain_names(plain)), len(plain_nodes(plain)), plain_levels(plain), plain_width(plain)),
                         (40, 200, 70, 20))

    def test_all_of_a_full_tree(self):
        plain = full_tree()
        tree = built(plain)
        names = full_names()
        self.assertEqual((len(tree), tree.width, tree.names(), len(tree.nodes())), (40, 20, names, 200))
        self.assertEqual(plain_of(tree), plain)
        self.assertEqual([name in tree for name in names + ["a"]], [True] * 40 + [False])
        self.assertEqual(tree.mirror().mirror(), tree)
        self.assertNotEqual(tree.mirror(), tree.renamed([(names[39], "a")]))
        for many in range(41):
            low = names[::-1][:many]
            worths = {name: 0 if name in low else 1 for name in names}
            self.assertEqual(tree.passes(low), plain_ends(plain, worths).count(0))

    def test_a_ring_through_a_full_tree(self):
        names = full_names()
        found = built(full_tree()).renamed([(names[at], names[at - 1]) for at in range(40)])
        self.assertEqual(found.names(), names[-1:] + names[:-1])

    def test_putting_a_deep_tree_into_a_full_one(self):
        other = built(chain("x", 70))
        found = built(full_tree()).put(full_names()[0], other)
        self.assertEqual(found.names(), ["x"] + full_names()[1:])
        self.assertEqual(len(found.nodes()), 270)
        self.assertEqual(other.put("x", built(chain("y", 60))), built(chain("y", 130)))

    def test_long_lists(self):
        tree = example()
        for value in (["a"] * 300, ["b", "a"] * 150, [HUGE] * 300):
            self.raises(InvalidList, value, tree.passes, value)
            self.raises(InvalidList, value, tree.renamed, value)
        for ranks in (list(range(1, 301)), [HUGE + at for at in range(300)]):
            with self.assertRaises(InvalidTree) as caught:
                Group(ranks, parts := [tree])
            self.assertIs(caught.exception.value[0], ranks)
            self.assertIs(caught.exception.value[1], parts)
        with self.assertRaises(InvalidTree):
            Group([1], [tree] * 300)


if __name__ == "__main__":
    unittest.main()
