"""What several tests use: nets, odd values, and a case that checks errors with their fields."""

import unittest

from evenends.books import Book
from evenends.houses import House
from evenends.nets import Net
from evenends.parts import Door, Tally
from evenends.stations import Keeper, Station
from evenends.vectors import Vector

LETTERS = "abcdefghijklmnopqrstuvwxyz"

LINES = ["door d j k", "station j g>q h>b", "book one k>g:u", "book two k>g:v,h:o"]
PLAIN = Net.read("\n".join(LINES + ["station q s>a", "book only u>s:o", "tally a o=1", "tally b o=1"]))
KEPT = PLAIN.as_keeper("q")
FRAIL = KEPT.as_frail("q")
HEAD = ["door d j x", "station j g>q", "book one x>g:z", "book two x>g:w", "keeper n s>a", "book only u>s:o"]
TWO = Net.read("\n".join(HEAD + ["station q m>n t>b", "book one w>t:o z>m:u", "book two w>m:v,t:o z>t:o",
                                 "tally a o=1", "tally b o=1"]))


def switch(amount, kind="k"):
    """A net in which one book of a station sends begins of k to a tally, and the other one nothing."""
    return Net(Door("d", "s", kind), Station("s", {"w": "t"}, ("x", Book(k={"w": "k"})), ("y", Book())),
               Tally("t", k=amount))


def spread(**amounts):
    """A net whose door has kinds with told lists of amounts that a begin can add to its one tally; nothing drifts."""
    most = max(len(row) for row in amounts.values())
    numbers = sorted({number for row in amounts.values() for number in row})
    kinds = {number: "x" + LETTERS[at // 26] + LETTERS[at % 26] for at, number in enumerate(numbers)}
    books = [("b" + LETTERS[at // 26] + LETTERS[at % 26],
              Book.of({kind: {"w": kinds[row[min(at, len(row) - 1)]]} for kind, row in amounts.items()}))
             for at in range(most)]
    return Net(Door("d", "s", *amounts), Keeper("s", {"w": "t"}, *books),
               Tally("t", **{kind: number for number, kind in kinds.items()}))


# Values that are neither names nor integers, nor dicts, lists or tuples of use.
ODD = [None, True, False, "", "A", "self", "abcdefghi", "a b", "a\n", "\n", "1", "a=1", [], ["a"], [[]], (), ("a",),
       (("a",), {}), {}, {"a": 1}, {"a": []}, Vector(), Vector(a=1), Book(), Book(k={"w": "o"}), Net(), House(Net()),
       Door("a", "b", "k"), Tally("a"), Station("a", {}, ("b", Book()))]

INTEGERS = [0, 1, -1, 7, 10 ** 59, -(10 ** 60) + 1]

NO_NAMES = ODD + INTEGERS

NAMES = ["a", "z", "abcdefgh", "selfs", "sel", "mod", "cls", "name", "numbers", "rows", "goal"]


def fields_of(error):
    return {key: value for key, value in vars(error).items() if not key.startswith("__")}


class Case(unittest.TestCase):
    """A test case that looks at errors closely."""

    def refused(self, kind, fields, function, *args, **more):
        """Checks that a call raises an error of just this class with just these fields."""
        with self.assertRaises(kind) as caught:
            function(*args, **more)
        self.assertIs(type(caught.exception), kind)
        told = fields_of(caught.exception)
        self.assertEqual(set(told), set(fields))
        for key, value in fields.items():
            self.alike(told[key], value)

    def alike(self, one, other):
        """Checks that two values are equal and of one class, so that True is not 1."""
        self.assertIs(type(one), type(other))
        self.assertEqual(one, other)

    def ascends(self, table, expected):
        """Checks a dict together with the order of its keys."""
        self.assertIs(type(table), dict)
        self.assertEqual(list(table.items()), list(expected.items()))
