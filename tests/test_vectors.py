"""Vectors and their texts."""

import random

from evenends.errors import InvalidText, InvalidVector
from evenends.vectors import Vector
from tests.samples import NAMES, NO_NAMES, ODD, Case

BIG = 10 ** 59 + 7


class TestVector(Case):
    def test_numbers(self):
        vector = Vector(b=-2, a=1, z=0)
        self.assertEqual([vector["a"], vector["b"], vector["z"], vector["c"]], [1, -2, 0, 0])
        self.assertEqual(vector.names, ("a", "b"))
        self.assertEqual((len(vector), bool(vector)), (2, True))

    def test_of(self):
        self.assertEqual(Vector.of({"b": -2, "a": 1, "z": 0}), Vector(a=1, b=-2))
        self.assertEqual(Vector.of(numbers={"b": 3}), Vector(b=3))
        self.assertEqual(Vector.of({}), Vector())

    def test_zero(self):
        for zero in (Vector.zero(), Vector(), Vector(a=0), Vector.of({"b": 0})):
            self.assertEqual(zero, Vector.zero())
            self.assertEqual((zero.names, len(zero), bool(zero)), ((), 0, False))

    def test_names_of_parameters(self):
        for name in NAMES:
            for vector in (Vector(**{name: 3}), Vector.of({name: 3})):
                self.assertEqual((vector.names, vector[name]), ((name,), 3))
        self.assertEqual(Vector(numbers=3).names, ("numbers",))

    def test_wrong_numbers(self):
        for value in ODD + ["3"]:
            self.refused(InvalidVector, {}, Vector, a=value)
            self.refused(InvalidVector, {}, Vector.of, {"b": 1, "a": value})

    def test_wrong_names(self):
        for name in ("A", "abcdefghi", "", "a b", "1"):
            self.refused(InvalidVector, {}, Vector, **{name: 1})
            self.refused(InvalidVector, {}, Vector.of, {"a": 1, name: 0})
        for name in ("self", None, True, 1, (), ("a",)):
            self.refused(InvalidVector, {}, Vector.of, {name: 1})

    def test_of_no_dict(self):
        for value in NO_NAMES + ["a"]:
            if value not in ({}, {"a": 1}):
                self.refused(InvalidVector, {}, Vector.of, value)

    def test_it_copies(self):
        numbers = {"a": 1}
        vector = Vector.of(numbers)
        numbers["a"] = 5
        numbers["b"] = 6
        self.assertEqual((str(vector), vector["a"], vector["b"]), ("a=1", 1, 0))

    def test_other_values_as_names(self):
        vector = Vector(a=1)
        for value in NO_NAMES:
            self.alike(vector[value], 0)
            self.assertIs(value in vector, False)
        self.assertIs("a" in vector, True)
        self.assertIs("b" in vector, False)

    def test_sums(self):
        one, other = Vector(a=1, b=2), Vector(b=-2, c=5)
        self.assertEqual(one + other, Vector(a=1, c=5))
        self.assertEqual((one + other).names, ("a", "c"))
        self.assertEqual(one - other, Vector(a=1, b=4, c=-5))
        self.assertEqual(-one, Vector(a=-1, b=-2))
        self.assertEqual((str(one), str(other)), ("a=1 b=2", "b=-2 c=5"))

    def test_multiples(self):
        vector = Vector(a=1, b=-2)
        self.assertEqual([str(vector * number) for number in (3, 1, 0, -1)],
                         ["a=3 b=-6", "a=1 b=-2", "0", "a=-1 b=2"])

    def test_products(self):
        self.alike(Vector(a=2, b=3, c=4).dot(Vector(b=5, c=-1, d=9)), 11)
        self.alike(Vector(a=2).dot(other=Vector(b=5)), 0)
        self.alike(Vector().dot(Vector()), 0)

    def test_big_numbers(self):
        one, other = Vector(a=BIG, b=-BIG), Vector(a=BIG + 1, b=BIG)
        self.assertEqual(one + other, Vector(a=2 * BIG + 1))
        self.assertEqual(one - other, Vector(a=-1, b=-2 * BIG))
        self.assertEqual((one * BIG)["b"], -(BIG * BIG))
        self.assertEqual(one.dot(other), BIG)
        self.assertEqual(str(one * 1000), f"a={BIG}000 b=-{BIG}000")

    def test_sums_by_name(self):
        chance = random.Random(1)
        for _ in range(200):
            numbers = [{name: chance.randint(-3, 3) for name in chance.sample("abcde", 3)} for _ in range(2)]
            one, other = Vector.of(numbers[0]), Vector.of(numbers[1])
            times = chance.randint(-4, 4)
            for name in "abcdef":
                left, right = numbers[0].get(name, 0), numbers[1].get(name, 0)
                self.assertEqual((one + other)[name], left + right)
                self.assertEqual((one - other)[name], left - right)
                self.assertEqual((one * times)[name], left * times)
                self.assertEqual((-one)[name], -left)
            self.assertEqual(one == other, all(numbers[0].get(n, 0) == numbers[1].get(n, 0) for n in "abcde"))

    def test_equality(self):
        self.assertTrue(Vector(a=1, b=2) == Vector(b=2, a=1, c=0))
        self.assertFalse(Vector(a=1, b=2) != Vector(b=2, a=1))
        for other in [Vector(a=2), Vector(b=1), Vector(a=1, b=1), Vector()]:
            self.assertFalse(Vector(a=1) == other)
            self.assertTrue(Vector(a=1) != other)
        for value in NO_NAMES:
            if type(value) is not Vector:
                self.assertFalse(Vector(a=1) == value)
                self.assertFalse(Vector() == value)

    def test_it_is_not_iterated(self):
        self.assertRaises(TypeError, list, Vector(a=1))


class TestVectorTexts(Case):
    def test_written(self):
        self.assertEqual(str(Vector(b=-20, a=1, c=0)), "a=1 b=-20")
        self.assertEqual(str(Vector()), "0")
        self.assertEqual(repr(Vector(b=-2, a=1)), "Vector(a=1 b=-2)")
        self.assertEqual(repr(Vector()), "Vector(0)")

    def test_read_back(self):
        vectors = [Vector(), Vector(a=1), Vector(a=-1, abcdefgh=10, z=-(10 ** 59)), Vector(a=10 ** 60 - 1)]
        for vector in vectors:
            self.assertEqual(Vector.read(str(vector)), vector)
        self.assertEqual(Vector.read(text="a=1"), Vector(a=1))

    def wrong(self, text, word):
        self.refused(InvalidText, {"line": 0, "word": word}, Vector.read, text)

    def test_no_strings(self):
        for value in NO_NAMES:
            if not isinstance(value, str):
                self.wrong(value, 0)

    def test_empty_words(self):
        self.wrong("", 0)
        self.wrong(" ", 0)
        self.wrong(" a=1", 0)
        self.wrong("a=1 ", 1)
        self.wrong("a=1  b=2", 1)
        self.wrong("a=1 b=2 ", 2)

    def test_zero_stands_alone(self):
        self.assertEqual(Vector.read("0"), Vector())
        for text in ("0 a=1", "0 0", "0 ", "0 x"):
            self.wrong(text, 1)
        self.wrong("a=1 0", 1)
        for text in ("00", "-0", "0\n", "1"):
            self.wrong(text, 0)

    def test_order(self):
        self.wrong("b=1 a=1", 1)
        self.wrong("a=1 b=1 b=2", 2)
        self.wrong("a=1 a=1", 1)
        self.wrong("a=1 c=1 b=1 d=1", 2)
        self.assertEqual(Vector.read("a=1 ab=1 b=1"), Vector(a=1, ab=1, b=1))
        self.wrong("ab=1 a=1", 1)

    def test_words(self):
        for word in ("a", "a=", "=1", "a=b", "A=1", "self=1", "abcdefghi=1", "a=1=2", "a==1", "a:1", "a=1,b=1",
                     "a=1\n", "\na=1", "a=1\nb=1", "a= 1", "a=1.0", "a=1_0", "a=+1", "a=--1", "a=1-", "a=-",
                     "a=\u0661", "a=\u00b2"):
            self.wrong(word, 0)
            self.wrong("aa=1 " + word.replace("a", "b"), 1)

    def test_numbers(self):
        for digits in ("0", "-0", "00", "01", "-01", "007"):
            self.wrong("a=" + digits, 0)
        for number in (1, -1, 10, -10, 909):
            self.assertEqual(Vector.read(f"a={number}")["a"], number)

    def test_digits(self):
        for sign in ("", "-"):
            self.assertEqual(Vector.read("a=" + sign + "9" * 60)["a"], int(sign + "9" * 60))
            self.wrong("a=" + sign + "9" * 61, 0)
            self.wrong("a=1 b=" + sign + "1" + "0" * 60, 1)

    def test_first_wrong_word(self):
        self.wrong("a=1 b=x A=1 b=2", 1)
        self.wrong("b=1 a=2 c=0", 1)
