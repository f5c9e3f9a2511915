"""Which line and word InvalidText tells, compared with trying how the beginnings of a text can go on.

The first word that cannot stand is an empty one, or the first one with which no text can go on. So the tests need
only know which texts are read at all: just those that are written by the program for what it has read.
"""

import random
import unittest

from evenends.books import Book
from evenends.errors import InvalidNet, InvalidText
from evenends.nets import Net
from evenends.stories import read_story, story_text
from evenends.vectors import Vector
from evenends.weightings import Weighting
from tests.samples import FRAIL, PLAIN
from tests.test_net_texts import ROOM

LAST = "zzzzzzzz"
REST_OF_LINE = ["", f" {LAST}", f" {LAST} {LAST}", f" {LAST} {LAST} {LAST}", f" {LAST} -", " -", " 0", f" {10 ** 59}"]
REST_OF_TEXT = ["", f"\nbook {LAST} -"]
JUNK = ["", "a", "z", "0", "-", "A", "self", "a=1", "a=0", "b=-2", "a>b", "a>b:c", "k>g:u,h:o", "door", "tally", "book",
        "station", "keeper", "frail", "open", "close", "settle", "move", "restart", "01", "-1", "1234567", "123456",
        "+", "mod", "2"]


def reads(read, text):
    """Whether a text is written as told; what it tells need not be a net."""
    try:
        read(text)
    except InvalidText:
        return False
    except InvalidNet:
        return True
    return True


def goes_on(read, text, rests):
    return any(reads(read, text + rest) for rest in rests)


def place_by_force(read, text, breaks):
    """The line and the word that should be told of a text that is not read."""
    lines = [line.split(" ") for line in (text.split("\n") if breaks else [text])]
    ends = REST_OF_TEXT if breaks else [""]
    rests = [line + end for line in REST_OF_LINE for end in ends]
    done = ""
    for index, words in enumerate(lines):
        for place in range(len(words)):
            if words[place] == "" or not goes_on(read, done + " ".join(words[:place + 1]), rests):
                return index, place
        done += " ".join(words)
        if not goes_on(read, done, ends):
            return index, len(words)
        done += "\n"
    return len(lines), 0


def spoiled(chance, text):
    """The text with something otherwise."""
    lines = [line.split(" ") for line in text.split("\n")]
    at = chance.randrange(len(lines))
    words = lines[at]
    place = chance.randrange(len(words))
    way = chance.randrange(9)
    if way == 0:
        del words[place]
    elif way == 1:
        words.insert(place, chance.choice(words))
    elif way == 2:
        other = chance.randrange(len(words))
        words[place], words[other] = words[other], words[place]
    elif way == 3:
        words[place] = chance.choice(JUNK)
    elif way == 4:
        words.insert(place + chance.randrange(2), chance.choice(JUNK))
    elif way == 5:
        del lines[at]
    elif way == 6:
        other = chance.randrange(len(lines))
        lines[at], lines[other] = lines[other], lines[at]
    elif way == 7:
        lines.insert(at, [chance.choice(JUNK)] if chance.random() < 0.5 else list(chance.choice(lines)))
    else:
        spot = chance.randrange(len(words[place]) + 1)
        sign = chance.choice(["", " ", "\n", "=", ">", ":", ",", "a", "0", "-", "A"])
        words[place] = words[place][:spot] + sign + words[place][spot + chance.randrange(2):]
    return "\n".join([" ".join(words) for words in lines])


class TestByForce(unittest.TestCase):
    def many(self, read, write, texts, breaks, rounds):
        chance = random.Random(3)
        wrong = 0
        for _ in range(rounds):
            text = chance.choice(texts)
            for _ in range(chance.randint(1, 3)):
                text = spoiled(chance, text)
            try:
                told = read(text)
            except InvalidText as error:
                self.assertEqual((error.line, error.word), place_by_force(read, text, breaks), repr(text))
                wrong += 1
            except InvalidNet:
                pass
            else:
                self.assertEqual(write(told), text)
        self.assertGreater(wrong, rounds // 3)

    def test_vectors(self):
        self.many(Vector.read, str, ["a=1 b=-2 c=10", "0", "a=1", "-"], False, 3000)

    def test_books(self):
        self.many(Book.read, str, ["-", "k>g:u,h:o l>g:k z>a:b", "k>g:u"], False, 3000)

    def test_nets(self):
        self.many(Net.read, str, ["\n".join(ROOM), str(PLAIN), str(FRAIL), "tally a", ""], True, 3000)

    def test_weightings(self):
        texts = ["a + 2 b - c", "- 12 a + mod", "a + 29 b mod 30", "0 mod 2", "0", "mod mod 3", "2 a mod 123456789"]
        self.many(Weighting.read, str, texts, False, 6000)

    def test_stories(self):
        story = "open d k\nsettle\nbook j two\nclose 0\nmove d\nrestart q\nsettle\nclose 123456"
        self.many(read_story, story_text, [story, "settle", "close 0", ""], True, 3000)
