"""The examples of the document."""

import unittest

from evenends import books, errors, houses, names, nets, parts, stations, stories, vectors

HEAD = r'''
>>> LINES = ["door d j k", "station j g>q h>b", "book one k>g:u", "book two k>g:v,h:o"]
>>> PLAIN = Net.read("\n".join(LINES + ["station q s>a", "book only u>s:o", "tally a o=1", "tally b o=1"]))
>>> KEPT = PLAIN.as_keeper("q")
'''

VECTORS = '''
>>> v = Vector(a=1, b=-2)
>>> [str(v * 3 - Vector(a=3)), v["c"], v.dot(Vector(b=4, c=9)), "a" in v, repr(v - v), v.names]
['b=-6', 0, -8, True, 'Vector(0)', ('a', 'b')]
>>> Vector.read("b=1 a=1")
raises InvalidText(0, 1)
'''

BOOKS = '''
>>> b = Book(x={"q": "z", "t": "one"}, y={})
>>> [str(b), b.kinds, b.row("y"), b.wires, str(Book.empty()), Book.read("x>q:z,t:one") == b]
['x>q:z,t:one', ('x',), {}, ('q', 't'), '-', True]
>>> Book.read("x>q:z y>")
raises InvalidText(0, 1)
'''

STATIONS = '''
>>> station = Keeper("q", {"s": "a"}, ("one", Book(u={"s": "o"})), ("two", Book(v={"s": "p"})))
>>> [row for row in station.outcomes("u", "v") if row[1] == "two"]
[('one', 'two', False, {'s': ('o', 'o')}), ('two', 'two', False, {})]
>>> [row[3] for row in station.outcomes(None, "v")]
[{}, {'s': (None, 'p')}, {}, {'s': (None, 'p')}]
'''

NETS = '''
>>> [PLAIN.wires, PLAIN.kinds, PLAIN.goal("h"), PLAIN.start("d"), PLAIN["q"].KIND, KEPT["q"].KIND]
[('d', 'g', 'h', 's'), ('k', 'o', 'u', 'v'), 'b', None, 'station', 'keeper']
>>> Net(Door("d", "j", "k"), Station("j", {"g": "q", "h": "q"}, ("one", Book())), Station("q", {}, ("one", Book())))
raises InvalidNet('ways', 'q')
'''

HOUSES = '''
>>> house = House(PLAIN)
>>> [house.open_item("d", "k"), house.settle(), str(house.tallies), house.use("j", "two"), house.close(0)]
[0, 3, 'a=1', None, None]
>>> [house.move("d"), house.wire("g"), house.wire("h"), house.settle(), str(house.tallies)]
[('end', 0, 'k'), (('end', 0, 'v'),), (('end', 0, 'o'),), 2, 'a=1 b=-1']
>>> kept = House(KEPT)
>>> [kept.do(("open", "d", "k"), ("settle",), ("book", "j", "two")), kept.known("q"), str(kept.meant)]
[(0, 3, None), {0: {'s': 'o'}}, 'b=1']
>>> [kept.do(("close", 0), ("settle",)), str(kept.tallies), kept.known("q")]
[(None, 4), 'b=-1', {}]
>>> frail = House(KEPT.as_frail("q"))
>>> frail.do(("open", "d", "k"), ("settle",), ("book", "j", "two"), ("restart", "q"), ("close", 0), ("settle",))
(0, 3, None, None, None, 3)
>>> str(frail.tallies)
'a=1 b=-1'
>>> house.do(("open", "d", "k"), ("close", 7))
raises NoItem(7)
>>> [house.set_most_open(1), house.open_item("d", "k"), house.open_items]
[None, 1, {1: ('d', 'k')}]
>>> house.open_item("d", "k")
raises TooMany(1)
'''

STORIES = r'''
>>> story = read_story("open d k\nsettle\nbook j two\nclose 0\nsettle")
>>> [story[3], str(played(KEPT, story).tallies), story_text(story[:2])]
[('close', 0), 'b=-1', 'open d k\nsettle']
>>> read_story("open d k\nclose 01")
raises InvalidText(1, 1)
'''

MODULES = (books, errors, houses, names, nets, parts, stations, stories, vectors)


class TestExamples(unittest.TestCase):
    def setUp(self):
        self.names = {}
        for module in MODULES:
            self.names.update({name: value for name, value in vars(module).items() if not name.startswith("_")})
        self.run_lines(HEAD)

    def run_lines(self, text):
        """Runs rows of the document: statements, and expressions with what they return or raise behind them."""
        rows = text.strip("\n").split("\n")
        for at, row in enumerate(rows):
            if not row.startswith(">>> "):
                continue
            answer = rows[at + 1] if at + 1 < len(rows) and not rows[at + 1].startswith(">>> ") else None
            if answer is None:
                exec(row[4:], self.names)
            elif answer.startswith("raises "):
                error = eval(answer[7:], self.names)
                with self.assertRaises(type(error)) as caught:
                    eval(row[4:], self.names)
                self.assertEqual((type(caught.exception), vars(caught.exception)), (type(error), vars(error)), row)
            else:
                self.assertEqual(repr(eval(row[4:], self.names)), answer, row)

    def test_vectors(self):
        self.run_lines(VECTORS)

    def test_names_of_parameters(self):
        self.run_lines('''>>> Vector(numbers=3).names\n('numbers',)''')

    def test_books(self):
        self.run_lines(BOOKS)

    def test_stations(self):
        self.run_lines(STATIONS)

    def test_nets(self):
        self.run_lines(NETS)

    def test_houses(self):
        self.run_lines(HOUSES)

    def test_stories(self):
        self.run_lines(STORIES)
