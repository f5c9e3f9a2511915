"""Books and their texts."""

from evenends.books import Book
from evenends.errors import InvalidBook, InvalidText
from tests.samples import INTEGERS, NAMES, NO_NAMES, Case


class TestBook(Case):
    def test_rows(self):
        book = Book(y={"t": "one", "q": "z"}, x={}, k={"q": "o"})
        self.assertEqual((book.kinds, book.wires, len(book), bool(book)), (("k", "y"), ("q", "t"), 2, True))
        self.ascends(book.row("y"), {"q": "z", "t": "one"})
        self.ascends(book.row("k"), {"q": "o"})
        self.ascends(book.row("x"), {})
        self.ascends(book.row(kind="other"), {})

    def test_of(self):
        self.assertEqual(Book.of({"x": {"q": "z"}, "y": {}}), Book(x={"q": "z"}))
        self.assertEqual(Book.of(rows={"x": {"q": "z"}}), Book(x={"q": "z"}))

    def test_empty(self):
        for book in (Book.empty(), Book(), Book(x={}), Book.of({}), Book.of({"x": {}})):
            self.assertEqual(book, Book.empty())
            self.assertEqual((book.kinds, book.wires, len(book), bool(book), str(book)), ((), (), 0, False, "-"))
            self.assertEqual(repr(book), "Book(0 kinds)")

    def test_names_of_parameters(self):
        for name in NAMES:
            for book in (Book(**{name: {name: name}}), Book.of({name: {name: name}})):
                self.assertEqual((book.kinds, book.row(name)), ((name,), {name: name}))

    def test_wrong_kinds(self):
        for name in ("A", "", "a b", "abcdefghi"):
            self.refused(InvalidBook, {"reason": "kinds"}, Book, **{name: {}})
            self.refused(InvalidBook, {"reason": "kinds"}, Book, **{name: 3, "a": 4})
        for name in ("self", None, 1, True, ("a",), ()):
            self.refused(InvalidBook, {"reason": "kinds"}, Book.of, {"a": {"q": "z"}, name: {}})
        for value in NO_NAMES + ["a"]:
            if value not in ({}, {"a": 1}, {"a": []}):
                self.refused(InvalidBook, {"reason": "kinds"}, Book.of, value)

    def test_wrong_rows(self):
        for value in NO_NAMES + ["a"]:
            if value != {}:
                self.refused(InvalidBook, {"reason": "rows"}, Book, a=value)
                self.refused(InvalidBook, {"reason": "rows"}, Book.of, {"b": {"q": "z"}, "a": value})
            self.refused(InvalidBook, {"reason": "rows"}, Book, a={"q": value if value != "a" else "A"})
        for wire in ("A", "self", None, 1, True, ("a",)):
            self.refused(InvalidBook, {"reason": "rows"}, Book, a={"q": "z", wire: "z"})

    def test_it_copies(self):
        row = {"q": "z"}
        rows = {"x": row}
        book = Book.of(rows)
        row["q"] = "other"
        row["r"] = "z"
        rows["y"] = {"q": "z"}
        self.assertEqual(str(book), "x>q:z")
        book.row("x")["q"] = "other"
        book.row("y")["q"] = "other"
        self.assertEqual((str(book), book.wires, book.kinds), ("x>q:z", ("q",), ("x",)))

    def test_other_values_as_kinds(self):
        book = Book(a={"q": "z"})
        for value in NO_NAMES:
            self.ascends(book.row(value), {})
            self.assertIs(value in book, False)
        self.assertEqual(["a" in book, "q" in book, "z" in book], [True, False, False])

    def test_equality(self):
        book = Book(x={"q": "z", "t": "o"}, y={"q": "o"})
        self.assertTrue(book == Book(y={"q": "o"}, x={"t": "o", "q": "z"}, z={}))
        self.assertFalse(book != Book(y={"q": "o"}, x={"t": "o", "q": "z"}))
        for other in (Book(x={"q": "z", "t": "o"}), Book(x={"q": "z", "t": "o"}, y={"q": "z"}),
                      Book(x={"q": "z", "t": "o"}, y={"r": "o"}), Book(x={"q": "z", "t": "o"}, z={"q": "o"}), Book()):
            self.assertFalse(book == other)
            self.assertTrue(book != other)
        for value in NO_NAMES:
            if type(value) is not Book:
                self.assertFalse(book == value)
                self.assertFalse(Book() == value)


class TestBookTexts(Case):
    def test_written(self):
        book = Book(y={"t": "one", "q": "z"}, x={"a": "b"}, w={})
        self.assertEqual(str(book), "x>a:b y>q:z,t:one")
        self.assertEqual(repr(book), "Book(2 kinds)")
        self.assertEqual(repr(Book(x={"a": "b"})), "Book(1 kinds)")

    def test_read_back(self):
        for book in (Book(), Book(x={"q": "z"}), Book(x={"q": "z", "t": "one"}, abcdefgh={"a": "a", "b": "a"})):
            self.assertEqual(Book.read(str(book)), book)
        self.assertEqual(Book.read(text="x>q:z"), Book(x={"q": "z"}))

    def wrong(self, text, word):
        self.refused(InvalidText, {"line": 0, "word": word}, Book.read, text)

    def test_no_strings(self):
        for value in NO_NAMES + INTEGERS:
            if not isinstance(value, str):
                self.wrong(value, 0)

    def test_empty_words(self):
        self.wrong("", 0)
        self.wrong(" x>q:z", 0)
        self.wrong("x>q:z ", 1)
        self.wrong("x>q:z  y>q:z", 1)

    def test_empty_book(self):
        for text in ("- ", "- -", "- x>q:z"):
            self.wrong(text, 1)
        self.wrong("x>q:z -", 1)
        for text in ("--", "-\n", "0"):
            self.wrong(text, 0)

    def test_order(self):
        self.wrong("y>q:z x>q:z", 1)
        self.wrong("x>q:z x>q:z", 1)
        self.wrong("x>q:z y>q:z xx>q:z", 2)
        self.wrong("x>t:z,q:z", 0)
        self.wrong("x>q:z,q:o", 0)
        self.wrong("w>q:z x>q:z,t:o,s:o", 1)

    def test_words(self):
        for word in ("x", "x>", ">q:z", "x>q", "x>q:", "x>:z", "x>q:z,", "x>,q:z", "x>q:z,,t:z", "x>q:z,t", "x>q:Z",
                     "x>Q:z", "X>q:z", "x>q:z:z", "x>q>z", "x>>q:z", "x>self:z", "x>q:self", "self>q:z", "x=q:z",
                     "x>q:z\n", "x>q:z\ny>q:z", "x>q:z;t:z", "xxxxxxxxx>q:z", "x>q:1", "x>-"):
            self.wrong(word, 0)
            self.wrong("w>q:z " + word, 1)

    def test_first_wrong_word(self):
        self.wrong("x>q:z y> x>q:z", 1)
        self.wrong("x>q: y>", 0)
