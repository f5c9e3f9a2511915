"""The texts of nets: written, read back, and told wrong."""

import unittest

from evenends.books import Book
from evenends.errors import InvalidNet, InvalidText
from evenends.nets import Net
from evenends.parts import Door, Tally
from evenends.stations import Frail, Keeper, Station
from tests.samples import FRAIL, KEPT, LINES, NO_NAMES, PLAIN, Case

ROOM = ["door d j k l", "door e j k", "station j g>q h>t", "book one k>g:u,h:o l>g:k", "book two -",
        "keeper q", "book a -", "frail r w>t", "book b u>w:o", "tally t o=1 p=-20", "tally u"]
ROOM_NET = Net(
    Door("e", "j", "k"), Door("d", "j", "l", "k"), Tally("u"), Tally("t", p=-20, o=1, z=0),
    Frail("r", {"w": "t"}, ("b", Book(u={"w": "o"}))), Keeper("q", {}, ("a", Book())),
    Station("j", {"h": "t", "g": "q"}, ("one", Book(l={"g": "k"}, k={"h": "o", "g": "u"})), ("two", Book())))


class TestWritten(unittest.TestCase):
    def test_written(self):
        self.assertEqual(str(ROOM_NET), "\n".join(ROOM))
        self.assertEqual(repr(ROOM_NET), "Net(3 stations)")
        self.assertEqual(str(Net()), "")
        self.assertEqual(str(Net(Tally("a"))), "tally a")

    def test_books_stay_in_order(self):
        net = Net(Station("j", {}, ("b", Book()), ("c", Book()), ("a", Book())))
        self.assertEqual(str(net), "station j\nbook b -\nbook c -\nbook a -")
        self.assertEqual(Net.read(str(net))["j"].books, ("b", "c", "a"))

    def test_stations_of_all_sorts_ascend_together(self):
        net = Net(Station("c", {}, ("b", Book())), Frail("a", {}, ("b", Book())), Keeper("b", {}, ("b", Book())))
        self.assertEqual(str(net), "frail a\nbook b -\nkeeper b\nbook b -\nstation c\nbook b -")

    def test_read_back(self):
        for net in (ROOM_NET, PLAIN, KEPT, FRAIL, Net(), Net(Tally("a")), Net(Tally("a"), Door("d", "a", "k")),
                    Net(Station("j", {}, ("b", Book()))), Net(Tally("a", abcdefgh=999999, k=-999999))):
            again = Net.read(str(net))
            self.assertEqual(again, net)
            self.assertEqual(str(again), str(net))
        self.assertEqual(Net.read(text=""), Net())


class TestWrong(Case):
    def wrong(self, lines, line, word):
        """Checks what is told of a text that is a row of lines."""
        self.refused(InvalidText, {"line": line, "word": word}, Net.read, "\n".join(lines))

    def swapped(self, index, text, word):
        """Checks what is told of ROOM with another line in place of one."""
        self.wrong(ROOM[:index] + [text] + ROOM[index + 1:], index, word)

    def test_no_strings(self):
        for value in NO_NAMES:
            if not isinstance(value, str):
                self.refused(InvalidText, {"line": 0, "word": 0}, Net.read, value)

    def test_empty_words_and_lines(self):
        self.wrong(["", ""], 0, 0)
        self.wrong([" "], 0, 0)
        for index in range(len(ROOM)):
            self.wrong(ROOM[:index] + [""] + ROOM[index:], index, 0)
            self.swapped(index, " " + ROOM[index], 0)
            words = ROOM[index].split(" ")
            self.swapped(index, ROOM[index] + " ", len(words))
            for place in range(1, len(words)):
                self.swapped(index, " ".join(words[:place] + [""] + words[place:]), place)
                self.swapped(index, " ".join(words[:place] + [""] + words[place + 1:]), place)
        self.wrong(ROOM + [""], len(ROOM), 0)

    def test_first_words(self):
        for word in ("Door", "doors", "wire", "net", "-", "0", "a=1", "books", "stations", "DOOR"):
            for index in range(len(ROOM)):
                self.swapped(index, word + " a b c", 0)
            self.wrong(ROOM + [word], len(ROOM), 0)

    def test_lines_out_of_order(self):
        self.wrong(ROOM[:5] + ["door z j k"] + ROOM[5:], 5, 0)
        self.wrong(ROOM + ["door z j k"], len(ROOM), 0)
        self.wrong(ROOM + ["door a j"], len(ROOM), 0)
        for word in ("station", "keeper", "frail"):
            self.wrong(ROOM + [word + " z"], len(ROOM), 0)
        self.wrong(["tally a", "station j", "book b -"], 1, 0)
        self.wrong(["tally a", "door d a k"], 1, 0)
        self.wrong(["station j", "book b -", "door d j k"], 2, 0)

    def test_books_out_of_order(self):
        self.wrong(["book b -"], 0, 0)
        self.wrong(["door d j k", "book b -"], 1, 0)
        self.wrong(["tally a", "book b -"], 1, 0)
        self.wrong(["station j", "book a -", "tally t", "book b -"], 3, 0)
        self.wrong(ROOM + ["book b -"], len(ROOM), 0)
        self.wrong(["book"], 0, 0)

    def test_stations_without_books(self):
        for word in ("station", "keeper", "frail"):
            self.wrong([word + " j"], 1, 0)
            self.wrong(["door d j k", word + " j g>a"], 2, 0)
            self.wrong([word + " j", "tally a"], 1, 0)
            self.wrong([word + " j", "station z", "book b -"], 1, 0)
            self.wrong([word + " j", "tally"], 1, 0)
            self.wrong([word + " j", "station a", "book b -"], 1, 0)
            self.wrong([word + " j", ""], 1, 0)
            self.wrong([word + " j", "book"], 1, 1)
            self.wrong([word + " j", "book b -", "keeper z"], 3, 0)

    def test_names_ascend(self):
        self.swapped(1, "door d j k", 1)
        self.swapped(1, "door c j k", 1)
        self.swapped(1, "door c J k", 1)
        self.swapped(5, "keeper j", 1)
        self.swapped(5, "station i", 1)
        self.swapped(7, "frail p w>t", 1)
        self.swapped(10, "tally t", 1)
        self.swapped(10, "tally a A=1", 1)

    def test_a_sort_begins_anew(self):
        net = Net.read("door z j k\nstation j g>a\nbook z -\nstation k\nbook a -\nbook z -\ntally a")
        self.assertEqual((net.doors, net.stations, net.tallies), (("z",), ("j", "k"), ("a",)))

    def test_book_names(self):
        self.swapped(4, "book one -", 1)
        self.swapped(4, "book one x", 1)
        self.wrong(ROOM[:5] + ["book aaa -", "book two -"] + ROOM[5:], 6, 1)
        self.assertEqual(Net.read("station j\nbook z -\nbook a -\nkeeper k\nbook z -")["j"].books, ("z", "a"))

    def test_door_lines(self):
        self.swapped(0, "door", 1)
        self.swapped(0, "door d", 2)
        self.swapped(0, "door d j", 3)
        for name in ("D", "self", "abcdefghi", "1", "a=1", "-"):
            self.swapped(0, f"door {name} j k l", 1)
            self.swapped(0, f"door d {name} k l", 2)
            self.swapped(0, f"door d j {name} l", 3)
            self.swapped(0, f"door d j k {name}", 4)
        self.swapped(0, "door d j l k", 4)
        self.swapped(0, "door d j k k", 4)
        self.swapped(0, "door d j a c b d", 5)

    def test_station_lines(self):
        for sort in ("station", "keeper", "frail"):
            self.swapped(2, sort, 1)
            for name in ("J", "self", "abcdefghi", "1", "g>q"):
                self.swapped(2, f"{sort} {name} g>q", 1)
            for word in ("g", "g>", ">q", "g>Q", "G>q", "g>q>r", "g:q", "g>q,h>t", "self>q", "g>self", "-"):
                self.swapped(2, f"{sort} j {word} h>t", 2)
                self.swapped(2, f"{sort} j a>q {word}", 3)
            self.swapped(2, f"{sort} j h>t g>q", 3)
            self.swapped(2, f"{sort} j g>q g>t", 3)
            self.swapped(2, f"{sort} j a>q c>q b>q d", 4)

    def test_book_lines(self):
        self.swapped(3, "book", 1)
        self.swapped(3, "book one", 2)
        for name in ("One", "self", "k>g:u", "-"):
            self.swapped(3, f"book {name} k>g:u", 1)
        for word in ("k", "k>", "k>g", "k>g:", "k>h:o,g:u", "k>g:u,g:o", "K>g:u", "0", "k>g:u,"):
            self.swapped(3, f"book one {word} l>g:u", 2)
            self.swapped(3, f"book one a>g:u {word}", 3)
        self.swapped(3, "book one - k>g:u", 3)
        self.swapped(3, "book one - -", 3)
        self.swapped(3, "book one k>g:u -", 3)
        self.swapped(3, "book one l>g:u k>g:u", 3)
        self.swapped(3, "book one k>g:u k>h:u", 3)

    def test_tally_lines(self):
        self.swapped(9, "tally", 1)
        for word in ("T", "self", "o=1"):
            self.swapped(9, f"tally {word} o=1", 1)
        for word in ("o", "o=", "=1", "o=0", "o=-0", "o=01", "o=1000000", "o=-1000000", "O=1", "o=1=1", "o:1", "0",
                     "-", "o=+1", "o=a"):
            self.swapped(9, f"tally t {word} p=1", 2)
            self.swapped(9, f"tally t a=1 {word}", 3)
        self.swapped(9, "tally t p=1 o=1", 3)
        self.swapped(9, "tally t o=1 o=1", 3)
        self.assertEqual(Net.read("tally t o=999999 p=-999999")["t"].amounts, {"o": 999999, "p": -999999})

    def test_the_first_wrong_word_is_told(self):
        self.wrong(["door d j k", "station j g>q g>q", "book one x", "tally t o"], 1, 3)
        self.wrong(["door D J", "wrong"], 0, 1)
        self.wrong(["station j", "book one k>g:u x", "book one -"], 1, 3)

    def test_invalid_nets_come_last(self):
        for text, reason, name in (
                ("door d j k", "goal", "d"),
                ("door a a k\ntally a", "name", "a"),
                ("station j g>t\nbook one k>h:o\ntally t", "row", "j"),
                ("station j g>j\nbook one -", "ring", "j"),
                ("door d j k\nstation j g>q h>q\nbook one -\nstation q\nbook one -", "ways", "q")):
            self.refused(InvalidNet, {"reason": reason, "name": name}, Net.read, text)
            lines = text.split("\n")
            self.wrong(lines + ["tally z o=0"], len(lines), 2)

    def test_lines_are_not_trimmed(self):
        text = "\n".join(LINES + ["station q s>a", "book only u>s:o", "tally a o=1", "tally b o=1"])
        self.assertEqual(Net.read(text), PLAIN)
        self.refused(InvalidText, {"line": 8, "word": 0}, Net.read, text + "\n")
        self.refused(InvalidText, {"line": 0, "word": 0}, Net.read, "\n" + text)
        self.refused(InvalidText, {"line": 7, "word": 3}, Net.read, text + " ")
