"""Promise [2]: which error is raised for each wrong argument, and for each two wrong ones at once."""

import unittest
from itertools import combinations

from asks import Asking
from plain import built
from rankpicks.changes import fewest
from rankpicks.chances import mean_rank, order_counts, set_counts
from rankpicks.compare import alike, is_simple, normal, parting
from rankpicks.counts import count_table, greatest_rank, high_names, is_count_table, least_rank, low_names
from rankpicks.desks import Desk
from rankpicks.errors import (InvalidList, InvalidLot, InvalidName, InvalidNumber, InvalidReport, InvalidText,
                              InvalidTree, Lacking, Unknown)
from rankpicks.leaps import leap_lots, leap_of
from rankpicks.lots import Lot, end_of, ends_of, outs_of
from rankpicks.partial import between, decides, matters
from rankpicks.places import order_at, rank_in, rank_span
from rankpicks.reports import Report, few_lot, known_counts, kth, many_lot
from rankpicks.texts import read_lot, read_tree, write_lot, write_tree
from rankpicks.trees import Leaf

TREE = built(((1, 3), (((2,), ("a", "b", "c")), "d", "e")))
OTHER = built(((2, 4), tuple("edcba")))
LOT = Lot([("a", 7), ("b", -1), ("c", 4), ("d", 4), ("e", 9)])
REPORT = Report(TREE, [4, 9])
# The right arguments that every call begins with; a call takes those that it names.
RIGHT = {"tree": TREE, "one": TREE, "other": OTHER, "lot": LOT, "j": 2, "k": 2, "rank": 3, "name": "d", "bound": 4,
         "prices": [("a", 2)], "claim": [], "told": [3, 3], "report": REPORT, "reports": [REPORT], "worth": 5,
         "some": None}
NO_NUMBERS = [True, False, None, "1", [1], (1,), 0, 3, -1, 10 ** 40]
WRONG = {
    "tree": (InvalidTree, [None, "a", True, 1, [Leaf("a")], LOT, ("a",)]),
    "one": (InvalidTree, [None, "a", True, 1, [Leaf("a")], LOT]),
    "other": (InvalidTree, [None, "a", Leaf("a"), built(((1,), tuple("abcdf"))), built(((1,), tuple("abcdef")))]),
    "lot": (InvalidLot, [None, [("a", 1)], {"a": 1}, TREE, True, 0]),
    "j": (InvalidNumber, NO_NUMBERS),
    "k": (InvalidNumber, NO_NUMBERS),
    "rank": (InvalidNumber, [value for value in NO_NUMBERS if value != 3] + [6]),
    "bound": (InvalidNumber, [True, False, None, "1", [1], (1,)]),
    "worth": (InvalidNumber, [True, False, None, "1", [1], (1,)]),
    "told": (InvalidReport, [None, (3, 3), [3], [3, 3, 3], [4, 3], [True, 1], 3, "33"]),
    "report": (InvalidReport, [None, TREE, [REPORT], True, [4, 9]]),
    "reports": (InvalidList, [None, [], REPORT, (REPORT,), [REPORT, None], [[REPORT]], True]),
    "some": (InvalidLot, [True, 0, [("a", 1)], {"a": 1}, TREE]),
    "name": (InvalidName, [None, "", "A", "abcdefghi", True, 1, ["a"], Leaf("a")]),
    "leaf": (Unknown, ["f", "aa", "abcdefgh"]),
    "prices": (InvalidList, [(), (("a", 1),), {"a": 1}, [["a", 1]], [("f", 1)], [("a", -1)], [("a", True)], True, "a"]),
}


def at_desk(method):
    """The call of this method of a new desk."""
    return lambda **arguments: getattr(Desk(TREE, LOT), method)(**arguments)


def put_on_desk(name, worth):
    Desk(TREE, LOT)[name] = worth


def make_desk(tree, some):
    Desk(tree, some)


# What each call is asked for, in the order in which the document names it; a leaf is a name that the tree may lack.
ORDERS = [
    (["tree", "j"], [least_rank, greatest_rank, low_names, high_names, rank_span, set_counts, order_counts, mean_rank]),
    (["tree", "claim"], [is_count_table]),
    (["tree"], [count_table, is_simple, normal]),
    (["tree", "lot", "j", "worths"], [end_of, rank_in]),
    (["tree", "lot", "worths"], [ends_of, outs_of]),
    (["tree", "rank", "j"], [order_at]),
    (["tree", "name", "leaf", "j"], [leap_of, leap_lots]),
    (["tree", "lot", "bound", "j", "prices", "worths"], [fewest]),
    (["one", "other", "j", "k"], [parting]),
    (["one", "other"], [alike]),
    (["tree", "told"], [Report]),
    (["report", "worth"], [few_lot, many_lot]),
    (["reports", "worth"], [known_counts]),
    (["reports", "rank"], [kth]),
    (["worth"], [REPORT.upto]),
    (["tree", "lot", "j"], [between, matters]),
    (["tree", "lot", "j", "worths"], [decides]),
    (["tree", "some"], [make_desk]),
    (["name", "leaf"], [at_desk("forget"), lambda name: Desk(TREE, LOT)[name]]),
    (["name", "leaf", "worth"], [put_on_desk]),
    (["name", "leaf", "worth", "j"], [at_desk("what_if")]),
    (["j"], [at_desk("between"), at_desk("matters"), at_desk("end")]),
    (["tree"], [write_tree]),
    (["lot"], [write_lot]),
]


def argument(step):
    return {"leaf": "name", "worths": "lot"}.get(step, step)


class Order(Asking):
    def arguments(self, steps):
        return {argument(step): RIGHT[argument(step)] for step in steps}

    def check(self, call, step, arguments):
        """Check that the call raises the error of this step, the first one at which something is wrong."""
        if step == "worths":
            with self.assertRaises(Lacking) as caught:
                call(**arguments)
            self.assertEqual(caught.exception.which, "b")
        else:
            self.raises(WRONG[step][0], arguments[argument(step)], call, **arguments)

    def wrong_values(self, step):
        if step == "worths":
            return [Lot([("a", 1)]), Lot([("a", 1), ("e", 4), ("x", 2)])]
        return WRONG[step][1]

    def test_one_wrong_argument(self):
        for steps, calls in ORDERS:
            for step in steps:
                for value in [] if step == "claim" else self.wrong_values(step):
                    for call in calls:
                        self.check(call, step, {**self.arguments(steps), argument(step): value})

    def test_two_wrong_arguments(self):
        for steps, calls in ORDERS:
            for first, second in combinations([step for step in steps if step != "claim"], 2):
                if argument(first) != argument(second):
                    for value in self.wrong_values(first):
                        for other in self.wrong_values(second)[:3]:
                            wrong = {argument(first): value, argument(second): other}
                            for call in calls:
                                self.check(call, first, {**self.arguments(steps), **wrong})

    def test_all_arguments_are_wrong(self):
        for steps, calls in ORDERS:
            wrong = {argument(step): 0 if step in ("prices", "some") else None for step in steps}
            for call in calls:
                self.check(call, steps[0], wrong)

    def test_right_arguments(self):
        for steps, calls in ORDERS:
            for call in calls:
                if call is normal:
                    self.raises(InvalidTree, TREE, normal, TREE)
                else:
                    call(**self.arguments(steps))

    def test_texts(self):
        for value in [None, True, 0, [], ["a"], ("a",), Leaf("a"), LOT, {"a": 1}, b"a"]:
            for call in (read_tree, read_lot):
                self.raises(InvalidText, None, call, value)


if __name__ == "__main__":
    unittest.main()
