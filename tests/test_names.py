"""Names and integers."""

import string

from evenends.names import is_integer, is_name
from tests.samples import INTEGERS, NAMES, NO_NAMES, ODD, Case


class TestNames(Case):
    def test_names(self):
        for name in NAMES:
            self.assertIs(is_name(name), True, name)

    def test_lengths(self):
        told = [is_name("a" * length) for length in range(11)]
        self.assertEqual(told, [False] + [True] * 8 + [False] * 2)

    def test_every_sign(self):
        for sign in [chr(code) for code in range(32, 127)] + ["\n"]:
            letter = sign in string.ascii_lowercase
            for text in (sign, "a" + sign, sign + "a", "a" + sign + "a"):
                self.assertIs(is_name(text), letter, repr(text))

    def test_letters_of_other_alphabets(self):
        for text in ("\u00e4", "\u03b1", "a\u00df", "\uff41", "\u00aa"):
            self.assertIs(is_name(text), False)

    def test_self_is_no_name(self):
        self.assertIs(is_name("self"), False)
        for text in ("selfa", "aself", "sel", "elf"):
            self.assertIs(is_name(text), True)

    def test_other_values(self):
        for value in NO_NAMES:
            self.assertIs(is_name(value), False, repr(value))

    def test_by_name(self):
        self.assertIs(is_name(value="a"), True)
        self.assertIs(is_integer(value=3), True)


class TestIntegers(Case):
    def test_integers(self):
        for value in INTEGERS:
            self.assertIs(is_integer(value), True)

    def test_other_values(self):
        for value in ODD + ["3", "-1"]:
            self.assertIs(is_integer(value), False, repr(value))
