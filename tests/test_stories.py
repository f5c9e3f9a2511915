"""Stories: played, written and read."""

import time

from evenends.errors import InvalidDeed, InvalidText, NoItem, UnknownName
from evenends.houses import House
from evenends.stories import played, read_story, story_text
from evenends.vectors import Vector
from tests.samples import KEPT, NO_NAMES, PLAIN, Case

TEXT = "open d k\nsettle\nbook j two\nclose 0\nmove d\nrestart q\nsettle"
DEEDS = (("open", "d", "k"), ("settle",), ("book", "j", "two"), ("close", 0), ("move", "d"), ("restart", "q"),
         ("settle",))


class TestPlayed(Case):
    def test_played(self):
        for deeds in (DEEDS, list(DEEDS)):
            house = played(KEPT, deeds)
            other = House(KEPT)
            other.do(*DEEDS)
            self.assertIs(type(house), House)
            self.assertEqual((house, house.tallies), (other, Vector(b=-1)))
        self.assertEqual(played(net=PLAIN, deeds=[]), House(PLAIN))
        self.assertEqual(played(PLAIN, ()), House(PLAIN))

    def test_refused(self):
        self.refused(InvalidDeed, {"reason": "deed"}, played, PLAIN, [("close", 7), ("wait",)])
        self.refused(NoItem, {"number": 7}, played, PLAIN, [("open", "d", "k"), ("close", 7), ("move", "x")])
        self.refused(UnknownName, {"name": "x"}, played, PLAIN, (("move", "x"),))

    def test_a_long_story_in_time(self):
        deeds = []
        for number in range(40):
            deeds += [("open", "d", "k"), ("book", "j", ("one", "two")[number % 2]), ("settle",), ("restart", "q"),
                      ("close", number // 2) if number % 2 else ("settle",)]
        began = time.perf_counter()
        for _ in range(20):
            self.assertEqual(len(played(KEPT.as_frail("q"), deeds).open_items), 20)
        self.assertLess(time.perf_counter() - began, 10)


class TestStoryTexts(Case):
    def test_written(self):
        self.assertEqual((story_text(DEEDS), story_text(list(DEEDS)), story_text(deeds=())), (TEXT, TEXT, ""))
        self.assertEqual(story_text([("settle",)]), "settle")

    def test_read(self):
        told = read_story(TEXT)
        self.assertIs(type(told), tuple)
        self.assertEqual(told, DEEDS)
        self.assertEqual([type(deed) for deed in told], [tuple] * 7)
        self.alike(told[3][1], 0)
        self.assertEqual((read_story(""), read_story(text="settle")), ((), (("settle",),)))
        self.assertEqual(read_story("close 999999"), (("close", 999999),))

    def test_read_back(self):
        self.assertEqual(story_text(read_story(TEXT)), TEXT)
        self.assertEqual(read_story(story_text(DEEDS)), DEEDS)

    def test_what_is_there_is_not_checked(self):
        self.assertEqual(read_story("open x y\nmove z\nbook one two\nrestart a\nclose 17"),
                         (("open", "x", "y"), ("move", "z"), ("book", "one", "two"), ("restart", "a"), ("close", 17)))

    def wrong(self, text, line, word):
        self.refused(InvalidText, {"line": line, "word": word}, read_story, text)
        self.refused(InvalidText, {"line": line + 7, "word": word}, read_story, TEXT + "\n" + text)
        self.refused(InvalidText, {"line": line, "word": word}, read_story, text + "\nother")

    def test_no_strings(self):
        for value in NO_NAMES + [DEEDS]:
            if not isinstance(value, str):
                self.refused(InvalidText, {"line": 0, "word": 0}, read_story, value)

    def test_empty_words_and_lines(self):
        for index, line in enumerate(TEXT.split("\n")):
            words = line.split(" ")
            self.wrong(" " + line, 0, 0)
            self.wrong(line + " ", 0, len(words))
            for place in range(1, len(words)):
                self.wrong(" ".join(words[:place] + [""] + words[place:]), 0, place)
            lines = TEXT.split("\n")
            self.wrong("\n".join(lines[:index] + [""] + lines[index:]), index, 0)
        self.refused(InvalidText, {"line": 7, "word": 0}, read_story, TEXT + "\n")
        self.refused(InvalidText, {"line": 0, "word": 0}, read_story, "\n")
        self.refused(InvalidText, {"line": 0, "word": 0}, read_story, " ")

    def test_first_words(self):
        for word in ("x", "Open", "opens", "begin", "use", "net", "table", "0", "-"):
            self.wrong(word, 0, 0)
            self.wrong(word + " d k", 0, 0)

    def test_missing_words(self):
        for text, word in (("open", 1), ("open d", 2), ("close", 1), ("move", 1), ("book", 1), ("book j", 2),
                           ("restart", 1)):
            self.wrong(text, 0, word)

    def test_words_too_many(self):
        for line in TEXT.split("\n"):
            for word in ("x", "0", "settle", "-", "A"):
                self.wrong(f"{line} {word}", 0, len(line.split(" ")))

    def test_names(self):
        for name in ("D", "self", "abcdefghi", "1", "d=1", "-"):
            for word in ("open", "book"):
                self.wrong(f"{word} {name} k", 0, 1)
                self.wrong(f"{word} {name}", 0, 1)
                self.wrong(f"{word} d {name}", 0, 2)
            for word in ("move", "restart"):
                self.wrong(f"{word} {name}", 0, 1)

    def test_numbers(self):
        for number in ("01", "00", "-0", "-1", "+1", "1000000", "x", "d", "1.0", "1_0", "-", "a=1", "\u0661", "\u00b2"):
            self.wrong(f"close {number}", 0, 1)
            self.wrong(f"close {number} 0", 0, 1)
        self.wrong("settle\nclose 01", 1, 1)
