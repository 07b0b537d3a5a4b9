"""Promises [130] and [131], and [1] to [3] as far as they bear on texts."""

import re
import unittest
from random import Random

from asks import Asking, InTime
from plain import (built, chain, full_names, full_tree, nine_tree, no_lots, no_trees, plain_of, plain_trees,
                   small_trees, some_trees, values)
from rankpicks.errors import InvalidLot, InvalidText, InvalidTree
from rankpicks.lots import Lot
from rankpicks.texts import read_lot, read_tree, write_lot, write_tree
from rankpicks.trees import Group, Leaf

HUGE = 10 ** 40 - 1
EXAMPLE = ((1, 3), (((2,), ("a", "b", "c")), "d", "e"))
THREE = ((2, 3), (((1, 2, 4), ("a", "b", "c", "d")), "e"))
SIGNS = "ab(),0123 \n-=x+.;)A_~"


def text_by_hand(plain):
    if isinstance(plain, str):
        return plain
    return "(" + " ".join(map(text_by_hand, plain[1])) + ")" + ",".join(map(str, plain[0]))


def is_tree_text(text):
    """Whether this is the text of a tree: what has no group within it is cut out, again and again."""
    names = re.findall("[a-z]+", text)
    if "<" in text or len(set(names)) < len(names) or any(len(name) > 8 for name in names):
        return False
    text = re.sub("[a-z]+", "<1>", text)
    while found := re.search(r"\((<\d+>(?: <\d+>)*)\)([1-9]\d*(?:,[1-9]\d*)*)", text):
        intake = sum(map(int, re.findall(r"\d+", found[1])))
        ranks = [int(digits) for digits in found[2].split(",")]
        if ranks != sorted(set(ranks)) or ranks[-1] > intake:
            return False
        text = text[:found.start()] + f"<{len(ranks)}>" + text[found.end():]
    return re.fullmatch(r"<\d+>", text) is not None


TAILS = ["", "z", "zz", "zq"] + list("abcdefghijklmnopqrstuvwxy") + [str(number) for number in range(60)]


def begins_tree_text(text):
    """Whether some tree has a text that begins like this: a word put behind it, and all brackets closed, is one."""
    closing = ")1" * (text.count("(") - text.count(")"))
    return any(is_tree_text(text + tail + closing) for tail in TAILS)


def spot_by_hand(text):
    for length in range(1, len(text) + 1):
        if not begins_tree_text(text[:length]):
            return length - 1
    return len(text)


def lot_spot_by_hand(text):
    """The number of the first line that is wrong; None for the text of a lot."""
    before = ""
    for at, line in enumerate(text.split("\n") if text else [], start=1):
        found = re.fullmatch("([a-z]{1,8})=(0|-?[1-9][0-9]*)", line)
        if found is None or found[1] <= before:
            return at
        before = found[1]
    return None


class Checks(Asking):
    def wrong(self, call, text, spot):
        with self.assertRaises(InvalidText) as caught:
            call(text)
        self.assertIs(type(caught.exception), InvalidText)
        self.assertEqual(caught.exception.spot, spot, text)
        self.assertIs(type(caught.exception.spot), type(spot))

    def check_tree(self, text):
        """Read a text that is right or wrong, and compare with the count by hand."""
        if is_tree_text(text):
            self.assertEqual(write_tree(read_tree(text)), text)
        else:
            self.wrong(read_tree, text, spot_by_hand(text))

    def check_lot(self, text):
        spot = lot_spot_by_hand(text)
        if spot is None:
            self.assertEqual(write_lot(read_lot(text)), text)
        else:
            self.wrong(read_lot, text, spot)


class TreeTexts(Checks):
    def test_the_example(self):
        text = "((a b c)2 d e)1,3"
        self.assertEqual(write_tree(read_tree(text)), text)
        self.assertEqual(read_tree(text), built(EXAMPLE))

    def test_written_and_read(self):
        for plain in some_trees() + [nine_tree(), "abcdefgh", chain("a", 55), chain(THREE, 50)]:
            tree, text = built(plain), text_by_hand(plain)
            self.assertEqual(write_tree(tree), text)
            found = read_tree(text)
            self.assertIs(type(found), type(tree))
            self.assertEqual((plain_of(found), found), (plain, tree))
            self.assertTrue(is_tree_text(text))

    def test_wide_groups(self):
        names = full_names()
        for ranks in ([1], [40], [9, 10, 11], list(range(1, 21)), [2, 20, 40]):
            tree = Group(ranks, [Leaf(name) for name in names])
            text = "(" + " ".join(names) + ")" + ",".join(map(str, ranks))
            self.assertEqual((write_tree(tree), plain_of(read_tree(text))), (text, plain_of(tree)))

    def test_the_spots_of_the_document(self):
        for text, spot in (("(a a)1", 4), ("(a b)12", 6), ("(a b)2,1", 6), ("", 0)):
            self.wrong(read_tree, text, spot)
            self.assertEqual(spot_by_hand(text), spot)

    def test_spots(self):
        for text, spot in (("(", 1), (")", 0), (" a", 0), ("a ", 1), ("a\n", 1), ("\n", 0), ("A", 0), ("aB", 1),
                           ("a1", 1), ("1", 0), ("abcdefgh", None), ("abcdefghi", 8), ("abcdefghij", 8), ("a b", 1),
                           ("a)", 1), ("a(", 1), ("()", 1), ("()1", 1), ("( a)1", 1), ("(a )1", 3), ("(a  b)1", 3),
                           ("(a", 2), ("(a ", 3), ("(a b", 4), ("(a b)", 5), ("(a b) 1", 5), ("(a b)a", 5),
                           ("(a b)(", 5), ("(a b),1", 5), ("(a b)0", 5), ("(a b)01", 5), ("(a b)-1", 5),
                           ("(a b)+1", 5), ("(a b)3", 5), ("(a b)1", None), ("(a b)2", None), ("(a b)1,2", None),
                           ("(a b)1,", 7), ("(a b)2,", 6), ("(a b)1,1", 7), ("(a b)1,3", 7), ("(a b)1,0", 7),
                           ("(a b)1,,2", 7), ("(a b)1, 2", 7), ("(a b)1 ", 6), ("(a b)1)", 6), ("(a b)1\n", 6),
                           ("(a b)1a", 6), ("(a b)1(", 6), ("(a b)1,2,", 8), ("(a b)1,2,3", 8), ("(a b)10", 6),
                           ("(a b)1,20", 8), ("(a(b)1)1", 2), ("(a (b)1)1", None), ("(a (b)1)2", None),
                           ("(a (b)1)3", 8), ("((a b)1,2 c)3", None), ("((a b)1 c)3", 10), ("((a b)1c)1", 7),
                           ("((a b)1 c", 9), ("((a b)1 c)", 10), ("((a b)1,2)1,2", None), ("((a b)1,2)1,2,", 13),
                           ("((a b) c)1", 6), ("((a b)1,)1", 8), ("((a b)2,)1", 7), ("((a b) 1 c)1", 6),
                           ("(a)1", None), ("(a)2", 3), ("((a)1)1", None), ("((((a", 5), ("(a b c a)1", 8),
                           ("(a (b a)1)1", 7), ("(ab a)1", None), ("(a ab)1", None), ("(ab ab)1", 6), ("(ab ab", 6),
                           ("(ab abc)1", None), ("(a b)1,2 (c)1", 8), ("(a b)1 c", 6)):
            if spot is None:
                self.assertEqual(write_tree(read_tree(text)), text)
            else:
                self.wrong(read_tree, text, spot)
            self.check_tree(text)

    def test_ranks_of_two_digits(self):
        for many in (9, 10, 11, 12, 19, 20, 23):
            head = "(" + " ".join("abcdefghijklmnopqrstuvwx"[:many]) + ")"
            for ranks in ("1", "9", "10", "12", "2,1", "2,10", "2,19", "9,10", "10,11", "11,12", "12,13", "9,1", "10,1",
                          "11,1", "1,10,11", "19,2", "19,20", "20,2", "1,2,3,4,5", "100", "1,100", "10,100", "010",
                          "3,2", "3,20", "1,1", "1,10,1", "2,2", "19,1", "4,20,3", "11,10", "20,19", "13,12", "9,9",
                          "10,10", "1,10,2", "2,3,23,24"):
                self.check_tree(head + ranks)
                self.check_tree("(" + head + ranks + " y)1")

    def test_ranks_that_only_longer_numbers_can_be(self):
        twelve = "(" + " ".join("abcdefghijkl") + ")"
        # Behind 9, what begins with 1 is 10, 11 or 12; behind 12 there is nothing.
        for ranks, length in (("9,1", 3), ("9,10", 4), ("9,13", 3), ("9,2", 2), ("10,1", 4), ("10,10", 4), ("12,", 2),
                              ("11,1", 4), ("11,11", 4), ("2,1", 3), ("2,2", 2)):
            text = twelve + ranks
            if is_tree_text(text):
                self.assertEqual(write_tree(read_tree(text)), text)
            else:
                self.wrong(read_tree, text, len(twelve) + length)

    def test_cut_off_at_each_place(self):
        for plain in small_trees(3)[::4] + [EXAMPLE, THREE, nine_tree(), "abcdefgh", chain("ab", 4)] + [
                ((2, 11), tuple("abcdefghijkl")), ((1,), ((((10,), tuple("abcdefghijk"))), "l"))]:
            text = text_by_hand(plain)
            for length in range(len(text)):
                cut = text[:length]
                if is_tree_text(cut):
                    self.assertEqual(write_tree(read_tree(cut)), cut)
                else:
                    self.wrong(read_tree, cut, length)

    def test_each_sign_put_in_at_each_place(self):
        for plain in (EXAMPLE, "ab", ((1, 2), ("a", "bb")), ((10, 11), tuple("acdefghijkl")),
                      ((2,), (((1, 2), (((1,), ("b",)), "a")), "c"))):
            text = text_by_hand(plain)
            for at in range(len(text) + 1):
                for sign in SIGNS:
                    self.check_tree(text[:at] + sign + text[at:])

    def test_each_sign_in_place_of_another_one_or_left_out(self):
        for plain in (EXAMPLE, ((1, 2), ("a", "bb")), ((10, 11), tuple("acdefghijkl")),
                      ((2,), (((1, 2), (((1,), ("b",)), "a")), "c"))):
            text = text_by_hand(plain)
            for at in range(len(text)):
                for sign in SIGNS + "c":
                    self.check_tree(text[:at] + sign + text[at + 1:])
                self.check_tree(text[:at] + text[at + 1:])

    def test_random_texts(self):
        chance = Random(131)
        words = ["(", "(", ")", ")1", ")2", ")1,2", ") ", " ", " ", "a", "b", "c", "ab", "1", ",", ",2"]
        for _ in range(4000):
            self.check_tree("".join(chance.choice(words) for _ in range(chance.randrange(9))))
            self.check_tree("(" + "".join(chance.choice(words) for _ in range(chance.randrange(12))))

    def test_names_of_which_none_is_left(self):
        letters = "abcdefghijklmnopqrstuvwxyz"
        # All names that begin with "sevensx" are there, so that a name cannot begin like this again.
        names = ["sevensx"] + ["sevensx" + letter for letter in letters]
        for order in (names, names[::-1]):
            text = "(" + " ".join(order) + ")1"
            self.assertEqual(write_tree(read_tree(text)), text)
            head = "(" + " ".join(order)
            for word, left in (("sevensx", 6), ("sevensxa", 6), ("sevens", None), ("sevenx", None), ("sevensy", None)):
                text = f"{head} {word})1"
                if left is None:
                    self.assertEqual(write_tree(read_tree(text)), text)
                else:
                    self.wrong(read_tree, text, len(head) + 1 + left)
            self.wrong(read_tree, head + " sevens", len(head) + 7)
        # As long as one of them is left, a name can.
        for gone in (0, 1, 13, 26):
            left = names[gone]
            head = "(" + " ".join(name for name in names if name != left)
            self.assertEqual(write_tree(read_tree(f"{head} {left})1")), f"{head} {left})1")
            self.wrong(read_tree, f"{head} sevensx", len(head) + 8)
            other = names[5]
            self.wrong(read_tree, f"{head} {other})1", len(head) + 8)

    def test_a_name_of_eight_letters_twice(self):
        for text, spot in (("(abcdefgh abcdefgh)1", 17), ("(abcdefgh abcdefgh", 17), ("(abcdefgh abcdefg", 17),
                           ("(abcdefgh abcdefg)1", None), ("(abcdefg abcdefg)1", 16), ("(abcdefg abcdefgh)1", None),
                           ("(abcdefgh abcdefg abcdefg)1", 25), ("(abcdefgh abcdefgha)1", 17)):
            if spot is None:
                self.assertEqual(write_tree(read_tree(text)), text)
            else:
                self.wrong(read_tree, text, spot)

    def test_values_that_are_no_strings(self):
        for value in values() + [["a"], ("(a b)1",), Leaf("a"), b"a"]:
            if type(value) is not str:
                for call in (read_tree, read_lot):
                    self.wrong(call, value, None)
        self.assertEqual(read_tree(text="a"), Leaf("a"))

    def test_any_string(self):
        for value in values():
            if type(value) is str:
                self.check_tree(value)

    def test_no_trees(self):
        for value in no_trees():
            self.raises(InvalidTree, value, write_tree, value)
            self.raises(InvalidTree, value, write_tree, tree=value)


class LotTexts(Checks):
    def test_written_and_read(self):
        for pairs, text in (([], ""), ([("a", 0)], "a=0"), ([("b", 1), ("a", -1)], "a=-1\nb=1"),
                            ([("aa", HUGE), ("a", -HUGE), ("z", 10)], f"a=-{HUGE}\naa={HUGE}\nz=10"),
                            ([("abcdefgh", 100), ("b", -20), ("abc", 7)], "abc=7\nabcdefgh=100\nb=-20")):
            lot = Lot(pairs)
            self.assertEqual(write_lot(lot), text)
            self.assertEqual(read_lot(text).pairs(), lot.pairs())
            self.assertIs(type(read_lot(text)), Lot)
            self.assertEqual(write_lot(read_lot(text=text)), write_lot(lot=lot))
        self.assertEqual(read_lot("a=4\nb=9\nd=6"), Lot([("a", 4), ("b", 9), ("d", 6)]))

    def test_the_spots_of_the_document(self):
        self.wrong(read_lot, "\na=1", 1)
        self.wrong(read_lot, "a=1\n", 2)
        self.assertEqual(read_lot(""), Lot())

    def test_spots(self):
        for text, spot in (("\n", 1), ("a", 1), ("a=", 1), ("=1", 1), ("a=1 ", 1), (" a=1", 1), ("a =1", 1),
                           ("a= 1", 1), ("a=01", 1), ("a=00", 1), ("a=-0", 1), ("a=-01", 1), ("a=+1", 1),
                           ("a=--1", 1), ("a=-", 1), ("a=1-", 1), ("a==1", 1), ("a=1=1", 1), ("A=1", 1), ("a1=1", 1),
                           ("abcdefghi=1", 1), ("a=1.0", 1), ("a=1_0", 1), ("a=0x1", 1), ("a=1\nb", 2),
                           ("a=1\n\nb=2", 2), ("a=1\nb=2\n", 3), ("b=1\na=1", 2), ("a=1\na=1", 2), ("a=1\na=2", 2),
                           ("aa=1\na=1", 2), ("a=1\nc=1\nb=1", 3), ("a=1\nc=1\nb", 3), ("c=1\nb=1\na=1", 2),
                           ("a=1\nb=x\nc", 2), ("a=1,b=2", 1), ("a=1 b=2", 1), ("a:1", 1), ("a", 1), ("1", 1),
                           ("\n\n", 1), (" ", 1), ("a=1\n ", 2), ("zzzzzzzz=1\nz=1", 2)):
            self.wrong(read_lot, text, spot)
            self.assertEqual(lot_spot_by_hand(text), spot)

    def test_cut_off_and_each_sign_put_in(self):
        for text in ("a=4\nb=9\nd=6", "a=-10\nab=0\nabcdefgh=-7", "x=1", "", "a=0\nb=0"):
            for at in range(len(text) + 1):
                self.check_lot(text[:at])
                for sign in SIGNS:
                    self.check_lot(text[:at] + sign + text[at:])
                    self.check_lot(text[:at] + sign + text[at + 1:])

    def test_random_texts(self):
        chance = Random(132)
        for _ in range(3000):
            lines = [chance.choice(("a", "b", "ab", "c", "d", "A", "")) + chance.choice(("=", "=", "=", "=", ""))
                     + chance.choice(("0", "1", "-1", "10", "-0", "01", "", "-")) for _ in range(chance.randrange(4))]
            self.check_lot("\n".join(lines))

    def test_any_string(self):
        for value in values():
            if type(value) is str:
                self.check_lot(value)

    def test_no_lots(self):
        for value in no_lots():
            self.raises(InvalidLot, value, write_lot, value)
            self.raises(InvalidLot, value, write_lot, lot=value)


class Staying(Checks):
    def test_nothing_changes(self):
        lot, tree = Lot([("b", 2), ("a", 1)]), built(EXAMPLE)
        self.assertEqual((write_lot(lot), write_tree(tree)), (write_lot(lot), write_tree(tree)))
        self.assertEqual((lot.pairs(), plain_of(tree)), ([("a", 1), ("b", 2)], EXAMPLE))
        found = read_lot("a=1\nb=2")
        found["a"] = 7
        self.assertEqual(read_lot("a=1\nb=2"), lot)
        self.assertEqual(read_tree("(a b)1"), read_tree("(a b)1"))


class Limits(Checks, InTime):
    def test_full_trees(self):
        plain = full_tree()
        text = text_by_hand(plain)
        self.assertEqual(write_tree(built(plain)), text)
        self.assertLess(len(text), 8000)
        # With fewer groups around it, the same tree has a text within the limits.
        fives = tuple(((1, 3, 5), tuple(full_names()[at:at + 5])) for at in range(0, 40, 5))
        plain = chain((tuple(range(3, 23)), fives), 20)
        text = text_by_hand(plain)
        self.assertTrue(1500 < len(text) <= 2000)
        self.assertEqual(plain_of(read_tree(text)), plain)
        for length in list(range(0, len(text), 37)) + [len(text) - 1]:
            if not is_tree_text(text[:length]):
                self.wrong(read_tree, text[:length], length)
        self.wrong(read_tree, text + ",", len(text))
        self.wrong(read_tree, text.replace("leafetzz", "leafatzz"), text.index("leafetzz") + 7)

    def test_sixty_brackets(self):
        for levels in (59, 60, 70):
            text = "(" * levels + "a" + ")1" * levels
            self.assertEqual(plain_of(read_tree(text)), ((1,), (plain_of(read_tree(text[1:-2])),)))
            self.assertEqual(write_tree(read_tree(text)), text)
            self.wrong(read_tree, text[:-1] + "2", len(text) - 1)
            self.wrong(read_tree, "(" * levels, levels)
            self.wrong(read_tree, text[:levels] + ")" * levels, levels)

    def test_many_names_and_long_numbers(self):
        names = [one + two + "a" for one in "abcdefghijklmnopqrst" for two in "abcdefghijklmnopqrstuvw"]
        text = "(" + " ".join(names) + ")" + str(len(names))
        self.assertTrue(1800 < len(text) <= 2000)
        self.assertEqual(write_tree(read_tree(text)), text)
        self.wrong(read_tree, text[:-1] + "9" * 40, len(text) - 1)
        self.wrong(read_tree, "(a b)" + "1" * 40, 6)
        text = "\n".join(f"{name}=-{HUGE}" for name in names[:40])
        self.assertEqual(write_lot(read_lot(text)), text)
        lot = Lot([(name, (-1) ** at * (HUGE - at)) for at, name in enumerate(names[:60])])
        self.assertEqual(read_lot(write_lot(lot)), lot)
        self.wrong(read_lot, "\n".join(["a=1"] * 500), 2)
        self.wrong(read_lot, "\n" * 2000, 1)


class Oracle(unittest.TestCase):
    """That the count by hand knows the texts of trees."""

    def test_texts_and_their_beginnings(self):
        for plain in plain_trees(tuple("bac"), 2)[::3]:
            text = text_by_hand(plain)
            self.assertTrue(is_tree_text(text))
            for length in range(len(text) + 1):
                self.assertTrue(begins_tree_text(text[:length]), text[:length])
        for text in ("(a b)3", "(a b)2,1", "(a a)1", "(a b) 1", "((a b)1", "(a b)1)", "a b", "abcdefghi", ""):
            self.assertFalse(is_tree_text(text))


if __name__ == "__main__":
    unittest.main()
