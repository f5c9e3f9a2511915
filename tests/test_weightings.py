"""Weightings, their sums and their texts."""

import random

from evenends.errors import InvalidText, InvalidWeighting
from evenends.vectors import Vector
from evenends.weightings import Weighting
from tests.samples import NAMES, NO_NAMES, ODD, Case

BIG = 10 ** 59 + 7


class TestWeighting(Case):
    def test_without_modulus(self):
        for weighting in (Weighting(b=-2, a=1, z=0), Weighting.of({"z": 0, "b": -2, "a": 1}),
                          Weighting(0, a=1, b=-2), Weighting.of({"a": 1, "b": -2}, 0),
                          Weighting.of(numbers={"a": 1, "b": -2}, modulo=0)):
            self.alike(weighting.modulo, 0)
            self.assertEqual((weighting.names, weighting.vector), (("a", "b"), Vector(a=1, b=-2)))

    def test_with_modulus(self):
        for weighting in (Weighting(5, c=5, b=-2, a=6, z=0), Weighting(modulo=5, a=1, b=3),
                          Weighting.of({"b": -2, "a": 6, "c": -10}, 5), Weighting.of({"a": 1, "b": 8}, modulo=5)):
            self.alike(weighting.modulo, 5)
            self.assertEqual((weighting.names, weighting.vector), (("a", "b"), Vector(a=1, b=3)))

    def test_empty(self):
        for weighting in (Weighting(), Weighting.of({}), Weighting(a=0), Weighting(2), Weighting(2, a=4)):
            self.assertEqual((weighting.names, weighting.vector), ((), Vector()))
        self.assertEqual(Weighting(2).modulo, 2)

    def test_names_of_parameters(self):
        for name in NAMES:
            self.assertEqual(Weighting(**{name: 3}).names, (name,))
        for name in NAMES + ["modulo"]:
            weighting = Weighting.of({name: 3}, 2)
            self.assertEqual((weighting.names, weighting.modulo), ((name,), 2))
            self.assertEqual(weighting(Vector.of({name: 5})), 1)
        self.assertEqual(Weighting.of({"modulo": 7}).vector, Vector(modulo=7))
        weighting = Weighting.of({"mod": 1, "modulo": 2}, 4)
        self.assertEqual((str(weighting), weighting.vector), ("mod + 2 modulo mod 4", Vector(mod=1, modulo=2)))

    def wrong(self, reason, modulo, numbers):
        self.refused(InvalidWeighting, {"reason": reason}, Weighting.of, numbers, modulo)
        if isinstance(numbers, dict) and all(isinstance(name, str) and name not in ("self", "modulo")
                                             for name in numbers):
            self.refused(InvalidWeighting, {"reason": reason}, Weighting, modulo, **numbers)

    def test_wrong_moduli(self):
        for value in ODD + ["0", "2", 1, -1, -2, -BIG, ("a", 0)]:
            self.wrong("modulo", value, {"a": 1})
            self.wrong("modulo", value, {})
        for value in (0, 2, 3, 10 ** 6, BIG):
            self.assertEqual(Weighting(value, a=1).modulo, value)

    def test_wrong_numbers(self):
        for modulo in (0, 5):
            for value in ODD + ["3"]:
                self.wrong("numbers", modulo, {"a": value})
                self.wrong("numbers", modulo, {"b": 1, "a": value})
            for name in ("A", "abcdefghi", "", "a b", "1", "self", None, True, 1, (), ("a",)):
                self.wrong("numbers", modulo, {name: 1})
                self.wrong("numbers", modulo, {"a": 1, name: 0})
            for value in NO_NAMES + ["a", [("a", 1)], Weighting(a=1)]:
                if not isinstance(value, dict):
                    self.wrong("numbers", modulo, value)

    def test_two_wrong_things(self):
        for modulo in (False, 1, None, True):
            self.wrong("modulo", modulo, {"a": None})
            self.wrong("modulo", modulo, None)

    def test_it_copies(self):
        numbers = {"a": 7}
        weighting = Weighting.of(numbers, 5)
        self.assertEqual(numbers, {"a": 7})
        numbers["a"] = 1
        numbers["b"] = 1
        self.assertEqual(weighting.vector, Vector(a=2))

    def test_sums(self):
        weighting = Weighting(a=2, b=-3)
        self.alike(weighting(Vector(a=5, b=4, c=9)), -2)
        self.alike(weighting(vector=Vector(c=9)), 0)
        self.alike(Weighting()(Vector(a=1)), 0)
        self.alike(Weighting(modulo=7, a=2, b=-3)(Vector(a=5, b=4, c=9)), 5)
        self.alike(Weighting(modulo=2, a=1)(Vector(a=-1)), 1)
        self.alike(Weighting(modulo=4, a=1, b=-1)(Vector(a=5, b=-5)), 2)

    def test_sums_of_big_numbers(self):
        vector = Vector(a=BIG, b=-BIG + 1, c=10 ** 60 - 1)
        self.assertEqual(Weighting(a=3, b=3)(vector), 3)
        self.assertEqual(Weighting(c=999999)(vector), 999999 * (10 ** 60 - 1))
        self.assertEqual(Weighting(modulo=999999, c=1)(vector), 0)
        self.assertEqual(Weighting(modulo=10 ** 60 - 1, c=2, a=1)(vector), BIG)
        self.assertEqual(Weighting(modulo=BIG, a=BIG - 1)(Vector(a=BIG + 1)), BIG - 1)

    def test_sums_by_name(self):
        chance = random.Random(31)
        for _ in range(300):
            modulo = chance.choice([0, 2, 3, 10])
            weights = {name: chance.randint(-12, 12) for name in chance.sample("abcd", 3)}
            numbers = {name: chance.randint(-12, 12) for name in chance.sample("abcd", 3)}
            total = sum(weights.get(name, 0) * numbers.get(name, 0) for name in "abcd")
            self.assertEqual(Weighting.of(weights, modulo)(Vector.of(numbers)), total % modulo if modulo else total)

    def test_equality(self):
        self.assertTrue(Weighting(a=1, b=2) == Weighting(b=2, a=1, c=0))
        self.assertTrue(Weighting(3, a=1) == Weighting(3, a=-2))
        self.assertFalse(Weighting(3, a=1) != Weighting(3, a=4, b=3))
        for other in [Weighting(a=2), Weighting(b=1), Weighting(a=1, b=1), Weighting(), Weighting(2, a=1),
                      Vector(a=1)] + ODD:
            self.assertFalse(Weighting(a=1) == other)
            self.assertTrue(Weighting(a=1) != other)
        self.assertFalse(Weighting(2) == Weighting())
        self.assertFalse(Weighting(2, a=1) == Weighting(3, a=1))


class TestWeightingTexts(Case):
    def test_written(self):
        for weighting, text in ((Weighting(a=1, b=2, c=-1), "a + 2 b - c"), (Weighting(a=-12), "- 12 a"),
                                (Weighting(30, a=1, b=-1), "a + 29 b mod 30"), (Weighting(2), "0 mod 2"),
                                (Weighting(), "0"), (Weighting(a=-1, b=12), "- a + 12 b"), (Weighting(b=7), "7 b"),
                                (Weighting(a=0, b=-7, c=-1), "- 7 b - c"), (Weighting(mod=-1), "- mod"),
                                (Weighting(2, mod=1), "mod mod 2"), (Weighting(10 ** 59, a=-1), "9" * 59 + " a mod 1"
                                                                     + "0" * 59)):
            self.assertEqual((str(weighting), repr(weighting)), (text, f"Weighting({text})"))

    def test_read_back(self):
        for weighting in (Weighting(), Weighting(a=1), Weighting(a=-1), Weighting(a=999999, b=-999999, c=1, d=-1),
                          Weighting(2), Weighting(10 ** 60 - 1, a=1, b=999999), Weighting(4, mod=3),
                          Weighting(mod=5, model=-2), Weighting(2, a=1, abcdefgh=1)):
            self.assertEqual(Weighting.read(str(weighting)), weighting)
        self.assertEqual(Weighting.read(text="2 a mod 3"), Weighting(3, a=2))
        chance = random.Random(32)
        for _ in range(300):
            modulo = chance.choice([0, 0, 2, 3, 999999])
            weighting = Weighting.of({name: chance.choice([-999999, -2, -1, 0, 1, 2, 50])
                                      for name in chance.sample(["a", "b", "mod", "z", "aa"], 3)}, modulo)
            self.assertEqual(Weighting.read(str(weighting)), weighting)

    def wrong(self, text, word):
        self.refused(InvalidText, {"line": 0, "word": word}, Weighting.read, text)

    def test_no_strings(self):
        for value in NO_NAMES + [Weighting(a=1), ["a"]]:
            if not isinstance(value, str):
                self.wrong(value, 0)

    def test_empty_words(self):
        for text, word in (("", 0), (" ", 0), (" a", 0), ("a ", 1), ("a  + b", 1), ("a +  b", 2), ("a + ", 2),
                           ("a + b ", 3), ("- ", 1), ("2 ", 1), ("0 ", 1), ("a mod ", 2), ("a mod 2 ", 3)):
            self.wrong(text, word)

    def test_words_that_are_missing(self):
        for text, word in (("-", 1), ("2", 1), ("a +", 2), ("a -", 2), ("a + 2", 3), ("a mod", 2), ("0 mod", 2),
                           ("- 2", 2), ("mod mod", 2)):
            self.wrong(text, word)

    def test_words_too_many(self):
        for text, word in (("a b", 1), ("0 0", 1), ("0 a", 1), ("0 + a", 1), ("0 - a", 1), ("a 2", 1), ("a + b c", 3),
                           ("a mod 2 mod", 3), ("a mod 2 + b", 3), ("a mod 2 3", 3), ("0 mod 2 0", 3), ("2 a 3", 2),
                           ("a 0", 1)):
            self.wrong(text, word)

    def test_signs(self):
        for text, word in (("+ a", 0), ("- - a", 1), ("a + + b", 2), ("a + - b", 2), ("a - + b", 2), ("+", 0),
                           ("a +b", 1), ("-a", 0), ("a -2 b", 1), ("a + -2 b", 2), ("-2 a", 0), ("a ++ b", 1),
                           ("a * b", 1), ("- + a", 1)):
            self.wrong(text, word)
        self.assertEqual(Weighting.read("- a - b"), Weighting(a=-1, b=-1))

    def test_numbers(self):
        for text, word in (("1 a", 0), ("0 a", 1), ("- 1 a", 1), ("- 0 a", 1), ("a + 1 b", 2), ("a + 0 b", 2),
                           ("02 a", 0), ("a + 02 b", 2), ("2a", 0), ("2 3 a", 1), ("a + 2 3 b", 3), ("+2 a", 0),
                           ("1234567 a", 0), ("a + 1000000 b", 2), ("a + 0", 2), ("- 0", 1), ("00", 0), ("-0", 0),
                           ("1", 0), ("2.0 a", 0), ("1_0 a", 0), ("\u0662 a", 0), ("\u00b2 a", 0), ("10 10", 1)):
            self.wrong(text, word)
        self.assertEqual(Weighting.read("999999 a + 123456 b"), Weighting(a=999999, b=123456))

    def test_names(self):
        for text, word in (("A", 0), ("self", 0), ("abcdefghi", 0), ("2 A", 1), ("a + B", 2), ("a + 2 B", 3),
                           ("a\n", 0), ("a\n+ b", 0), ("a +\nb", 1), ("a + b\n", 2), ("\na", 0), ("a\nmod 2", 0),
                           ("a mod 2\n", 2), ("a=1", 0), ("0\n", 0)):
            self.wrong(text, word)

    def test_order(self):
        for text, word in (("b + a", 2), ("a + a", 2), ("a + 2 a", 3), ("a + c - b + d", 4), ("2 b - 3 a", 4),
                           ("ab + a", 2), ("a + 2 mod + b", 5), ("- b + a", 3)):
            self.wrong(text, word)
        self.assertEqual(Weighting.read("a + ab + b"), Weighting(a=1, ab=1, b=1))

    def test_moduli(self):
        for text, word in (("a mod 1", 2), ("a mod 0", 2), ("a mod -2", 2), ("0 mod 1", 2), ("0 mod 0", 2),
                           ("a mod 02", 2), ("a mod a", 2), ("2 a mod 2", 3), ("a + 7 b mod 7", 5),
                           ("9 a + 2 b mod 8", 6), ("a + b mod 1", 4), ("a mod mod 2", 2), ("a Mod 2", 1),
                           ("a mod +2", 2), ("a mod 2a", 2), ("0 mod a", 2), ("123456 a mod 123456", 3)):
            self.wrong(text, word)
        self.assertEqual(Weighting.read("a + 7 b mod 8"), Weighting(8, a=1, b=7))
        self.assertEqual(Weighting.read("0 mod 2").modulo, 2)

    def test_moduli_and_signs(self):
        for text, word in (("a - b mod 4", 3), ("- a mod 4", 2), ("- a + b mod 4", 4), ("- 2 a mod 4", 3),
                           ("a - 2 b + c mod 4", 6), ("a - b mod", 3), ("- a mod", 2)):
            self.wrong(text, word)

    def test_digits(self):
        nines = "9" * 60
        self.assertEqual(Weighting.read("a mod " + nines).modulo, int(nines))
        self.assertEqual(Weighting.read("0 mod " + nines).modulo, int(nines))
        self.wrong("a mod 1" + nines, 2)
        self.wrong("0 mod " + nines + "0", 2)
        self.wrong("1234567 a mod " + nines, 0)
        self.assertEqual(Weighting.read("999999 a mod 1000000"), Weighting(10 ** 6, a=-1))

    def test_mod_as_a_tally(self):
        self.assertEqual(Weighting.read("mod"), Weighting(mod=1))
        self.assertEqual(Weighting.read("a + mod"), Weighting(a=1, mod=1))
        self.assertEqual(Weighting.read("mod + 2 x").names, ("mod", "x"))
        self.assertEqual(Weighting.read("- 3 mod"), Weighting(mod=-3))
        self.assertEqual(Weighting.read("2 mod mod 3"), Weighting(3, mod=2))
        self.assertEqual(Weighting.read("mod mod 2"), Weighting(2, mod=1))
        for text, word in (("mod 4", 1), ("2 mod 4", 2), ("a + mod 4", 3), ("- mod mod 4", 2), ("mod 2 x", 1),
                           ("mod + mod", 2), ("a - mod mod 4", 3)):
            self.wrong(text, word)

    def test_first_wrong_word(self):
        self.wrong("a + A + 1 b", 2)
        self.wrong("b + a mod 1", 2)
        self.wrong("2 a mod 1 x", 3)
