"""The texts of trees and lots."""

from rankpicks.checks import is_name
from rankpicks.errors import InvalidLot, InvalidText, InvalidTree
from rankpicks.lots import Lot, is_lot
from rankpicks.trees import Group, Leaf, is_tree


def write_tree(tree):
    """Return the text of a tree."""
    if not is_tree(tree):
        raise InvalidTree(tree)
    return _tree_text(tree)


def read_tree(text):
    """Return the tree whose text this is."""
    if not isinstance(text, str):
        raise InvalidText(None)
    return Reader(text).whole_tree()


def write_lot(lot):
    """Return the text of a lot."""
    if not is_lot(lot):
        raise InvalidLot(lot)
    return "\n".join([f"{name}={worth}" for name, worth in lot.pairs()])


def read_lot(text):
    """Return the lot whose text this is."""
    if not isinstance(text, str):
        raise InvalidText(None)
    lines = [] if text == "" else text.split("\n")
    pairs, before = [], ""
    for at, line in enumerate(lines, start=1):
        name, _, worth = line.partition("=")
        # No name is less than one that stands in a line before.
        if not is_name(name) or not before < name or not _is_number_text(worth):
            raise InvalidText(at)
        pairs.append((name, int(worth)))
        before = name
    return Lot(pairs)


class Reader:
    """A text that is read as that of a tree, sign by sign, as long as some tree has a text that begins like this."""

    def __init__(self, text):
        self._text = text
        self._at = 0
        self._names = []

    def whole_tree(self):
        """Return the tree whose text this is, to the end."""
        tree = self._read_tree()
        if self._at < len(self._text):
            raise InvalidText(self._at)
        return tree

    def _read_tree(self):
        if self._sign() == "(":
            return self._read_group()
        return Leaf(self._read_name())

    def _read_group(self):
        self._take("(")
        parts = [self._read_tree()]
        while self._sign() == " ":
            self._take(" ")
            parts.append(self._read_tree())
        self._take(")")
        return Group(self._read_ranks(sum([part.width for part in parts])), parts)

    def _read_ranks(self, intake):
        ranks = [self._read_rank(0, intake)]
        while self._sign() == "," and ranks[-1] < intake:
            self._take(",")
            ranks.append(self._read_rank(ranks[-1], intake))
        return ranks

    def _read_rank(self, before, intake):
        """Return the number that comes here, greater than the one before."""
        digits = self._longest(lambda word: _begins_rank(word, before, intake))
        if digits == "" or int(digits) <= before:
            raise InvalidText(self._at)
        return int(digits)

    def _read_name(self):
        """Return the name that comes here, one that has not been there."""
        name = self._longest(lambda word: _begins_name(word, self._names))
        if name == "" or name in self._names:
            raise InvalidText(self._at)
        self._names.append(name)
        return name

    def _longest(self, fits):
        """Take in and return what comes here, as long as it fits."""
        word = ""
        while self._sign() != "" and fits(word + self._sign()):
            word = word + self._sign()
            self._at = self._at + 1
        return word

    def _take(self, sign):
        if self._sign() != sign:
            raise InvalidText(self._at)
        self._at = self._at + 1

    def _sign(self):
        """Return the sign that comes next, the empty string at the end."""
        return self._text[self._at:self._at + 1]


def _tree_text(tree):
    if isinstance(tree, Leaf):
        return tree.name
    parts = " ".join([_tree_text(part) for part in tree.parts])
    ranks = ",".join([str(rank) for rank in tree.ranks])
    return f"({parts}){ranks}"


def _is_number_text(word):
    digits = word.removeprefix("-")
    if digits == "" or not _are_digits(digits):
        return False
    return word == "0" or digits[0] != "0"


def _are_digits(word):
    return all(["0" <= sign <= "9" for sign in word])


def _begins_name(word, names):
    """Return whether a name begins like this that is none of these names."""
    if not is_name(word):
        return False
    room, more = 1, 1
    for _ in range(8 - len(word)):
        more = more * 26
        room = room + more
    return len([name for name in names if name.startswith(word)]) < room


def _begins_rank(word, before, intake):
    """Return whether a number begins like this that is greater than the one before and at most the intake."""
    if not _are_digits(word) or word[0] == "0":
        return False
    least, greatest = int(word), int(word)
    while least <= intake:
        if greatest > before:
            return True
        least, greatest = least * 10, greatest * 10 + 9
    return False
