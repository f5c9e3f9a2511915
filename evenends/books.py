"""Books: by them a station sends notices on."""

from evenends.errors import InvalidBook, InvalidText
from evenends.names import gives_names, in_order, is_name
from evenends.texts import line_of, read_link


class Book:
    """Leads some kinds to rows that are not empty, and every other kind to the empty row."""

    def __init__(self, **rows):
        check_rows(rows)
        self._rows = {kind: in_order(rows[kind]) for kind in sorted(rows) if rows[kind]}
        self.kinds = tuple(self._rows)
        self._wires = tuple(sorted({wire for row in self._rows.values() for wire in row}))

    @classmethod
    def of(cls, rows):
        """The book with the rows of a dict."""
        check_rows(rows)
        return cls(**rows)

    @staticmethod
    def empty():
        """The book without rows."""
        return Book()

    @classmethod
    def read(cls, text):
        """The book with this text."""
        rows = read_rows(line_of(text), 0)
        return cls(**rows)

    @property
    def wires(self):
        """The ascending tuple of the wires that its rows lead."""
        return self._wires

    def row(self, kind):
        """A new dict from wires to kinds, the row of a kind; empty for any other value."""
        if kind not in self.kinds:
            return {}
        return dict(self._rows[kind])

    def __len__(self):
        return len(self.kinds)

    def __bool__(self):
        return bool(self.kinds)

    def __contains__(self, x):
        return x in self.kinds

    def __eq__(self, other):
        return isinstance(other, Book) and self._rows == other._rows

    def __str__(self):
        return str(rows_text(self._rows))

    def __repr__(self):
        return f"Book({len(self.kinds)} kinds)"


def check_rows(rows):
    """Checks that any value is a dict from kinds to rows."""
    if not isinstance(rows, dict) or not all([is_name(kind) for kind in rows]):
        raise InvalidBook("kinds")
    if not all([gives_names(row) for row in rows.values()]):
        raise InvalidBook("rows")


def rows_text(rows):
    """The text of a book with these rows, none of them empty."""
    if not rows:
        return "-"
    return " ".join([f"{kind}>{row_text(rows[kind])}" for kind in rows])


def row_text(row):
    """The links WIRE:KIND of a row, with commas between."""
    return ",".join([f"{wire}:{row[wire]}" for wire in row])


def read_rows(line, start):
    """The rows that the words of a line tell from an index on."""
    if line.word_at(start) == "-":
        line.end_at(start + 1)
        return {}
    rows = {}
    last = ""
    for at in range(start, len(line.words)):
        kind, _, links = line.words[at].partition(">")
        row = read_row(links)
        if not is_name(kind) or kind <= last or row is None:
            raise InvalidText(line.index, at)
        rows[kind] = row
        last = kind
    return rows


def read_row(links):
    """The row that links WIRE:KIND tell; None if they are not written so."""
    row = {}
    last = ""
    for text in links.split(","):
        link = read_link(text, ":", last)
        if link is None:
            return None
        last, kind = link
        row[last] = kind
    return row
