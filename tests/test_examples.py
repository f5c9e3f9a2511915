"""The examples of the document."""

import unittest

from evenends import (alike, books, courses, desk, drifts, errors, explaincheck, explained, formcheck, forms, houses,
                      lattices, names, nets, pairs, parts, plancheck, plans, recountcheck, recounts, reports, stations,
                      stories, sumcheck, sums, vectors, weightings)

HEAD = r'''
>>> LINES = ["door d j k", "station j g>q h>b", "book one k>g:u", "book two k>g:v,h:o"]
>>> PLAIN = Net.read("\n".join(LINES + ["station q s>a", "book only u>s:o", "tally a o=1", "tally b o=1"]))
>>> KEPT = PLAIN.as_keeper("q")
'''

VECTORS = '''
>>> v = Vector(a=1, b=-2)
>>> [str(v * 3 - Vector(a=3)), v["c"], v.dot(Vector(b=4, c=9)), "a" in v, repr(v - v), v.names]
['b=-6', 0, -8, True, 'Vector(0)', ('a', 'b')]
>>> Vector.read("b=1 a=1")
raises InvalidText(0, 1)
'''

BOOKS = '''
>>> b = Book(x={"q": "z", "t": "one"}, y={})
>>> [str(b), b.kinds, b.row("y"), b.wires, str(Book.empty()), Book.read("x>q:z,t:one") == b]
['x>q:z,t:one', ('x',), {}, ('q', 't'), '-', True]
>>> Book.read("x>q:z y>")
raises InvalidText(0, 1)
'''

STATIONS = '''
>>> station = Keeper("q", {"s": "a"}, ("one", Book(u={"s": "o"})), ("two", Book(v={"s": "p"})))
>>> [row for row in station.outcomes("u", "v") if row[1] == "two"]
[('one', 'two', False, {'s': ('o', 'o')}), ('two', 'two', False, {})]
>>> [row[3] for row in station.outcomes(None, "v")]
[{}, {'s': (None, 'p')}, {}, {'s': (None, 'p')}]
'''

NETS = '''
>>> [PLAIN.wires, PLAIN.kinds, PLAIN.goal("h"), PLAIN.start("d"), PLAIN["q"].KIND, KEPT["q"].KIND]
[('d', 'g', 'h', 's'), ('k', 'o', 'u', 'v'), 'b', None, 'station', 'keeper']
>>> Net(Door("d", "j", "k"), Station("j", {"g": "q", "h": "q"}, ("one", Book())), Station("q", {}, ("one", Book())))
raises InvalidNet('ways', 'q')
'''

HOUSES = '''
>>> house = House(PLAIN)
>>> [house.open_item("d", "k"), house.settle(), str(house.tallies), house.use("j", "two"), house.close(0)]
[0, 3, 'a=1', None, None]
>>> [house.move("d"), house.wire("g"), house.wire("h"), house.settle(), str(house.tallies)]
[('end', 0, 'k'), (('end', 0, 'v'),), (('end', 0, 'o'),), 2, 'a=1 b=-1']
>>> kept = House(KEPT)
>>> [kept.do(("open", "d", "k"), ("settle",), ("book", "j", "two")), kept.known("q"), str(kept.meant)]
[(0, 3, None), {0: {'s': 'o'}}, 'b=1']
>>> [kept.do(("close", 0), ("settle",)), str(kept.tallies), kept.known("q")]
[(None, 4), 'b=-1', {}]
>>> frail = House(KEPT.as_frail("q"))
>>> frail.do(("open", "d", "k"), ("settle",), ("book", "j", "two"), ("restart", "q"), ("close", 0), ("settle",))
(0, 3, None, None, None, 3)
>>> str(frail.tallies)
'a=1 b=-1'
>>> house.do(("open", "d", "k"), ("close", 7))
raises NoItem(7)
>>> [house.set_most_open(1), house.open_item("d", "k"), house.open_items]
[None, 1, {1: ('d', 'k')}]
>>> house.open_item("d", "k")
raises TooMany(1)
'''

STORIES = r'''
>>> story = read_story("open d k\nsettle\nbook j two\nclose 0\nsettle")
>>> [story[3], str(played(KEPT, story).tallies), story_text(story[:2])]
[('close', 0), 'b=-1', 'open d k\nsettle']
>>> read_story("open d k\nclose 01")
raises InvalidText(1, 1)
'''

COURSES = '''
>>> course = Course(PLAIN, "d", "k", j=("one", "two"))
>>> [course.pairs, str(course.begin), str(course.drift), course.passed]
[{'d': ('k', 'k'), 'g': ('u', 'v'), 'h': (None, 'o'), 's': ('o', None)}, 'a=1', 'a=1 b=-1', ('j', 'q')]
>>> other = Course(KEPT, "d", "k", j=("one", "two"))
>>> [other.pairs["s"], str(other.drift), str(played(KEPT, other.story()).tallies)]
[('o', 'o'), 'b=-1', 'b=-1']
>>> Course(KEPT, "d", "k", q=("only", "only", True))
raises InvalidCourse('forgets')
'''

PAIRS = '''
>>> [pairs(PLAIN)["s"], pairs(KEPT)["s"], endless(KEPT), met(KEPT, "s", None, "o"), met(PLAIN, "s", None, "o").kind]
[((None, 'o'), ('o', None), ('o', 'o')), (('o', 'o'),), (), None, 'k']
'''

WEIGHTINGS = '''
>>> w = Weighting(modulo=4, a=1, b=-1)
>>> [str(w), w(Vector(a=5, b=-5)), str(Weighting(a=-1, b=12)), w == Weighting.read("a + 3 b mod 4"), Weighting()(Vector(a=1))]
['a + 3 b mod 4', 2, '- a + 12 b', True, 0]
>>> [str(Weighting.of({"mod": 1, "modulo": 2}, 4)), Weighting.read("mod + 2 x").names]
['mod + 2 modulo mod 4', ('mod', 'x')]
>>> Weighting.read("a - b mod 4")
raises InvalidText(0, 3)
>>> [str(w) for w in (Weighting(a=1, b=2, c=-1), Weighting(a=-12), Weighting(30, a=1, b=-1), Weighting(2))]
['a + 2 b - c', '- 12 a', 'a + 29 b mod 30', '0 mod 2']
>>> Weighting.read("+ a")
raises InvalidText(0, 0)
>>> Weighting.read("0 a")
raises InvalidText(0, 1)
>>> [Weighting.read("a + mod").names, repr(Weighting(a=1, b=2))]
[('a', 'mod'), 'Weighting(a + 2 b)']
>>> Weighting.read("mod 4")
raises InvalidText(0, 1)
'''

SUMS = '''
>>> [clean(PLAIN, Weighting(a=1, b=1))[0], clean(KEPT, Weighting(a=1, b=1))[0], clean(KEPT, Weighting(a=1))[0]]
['clean', 'drifts', 'clean']
>>> clean(PLAIN, Weighting(a=1, b=1))[1][("s", "o", None)]
1
>>> [level(PLAIN, Weighting(a=1, b=1))[2][("d", "k")], level(KEPT, Weighting(a=1))[0], clean(KEPT.as_frail("q"), Weighting(a=1))[0]]
[1, 'begins', 'drifts']
'''

SPOILT = r'''
>>> HEAD = ["door d j x", "station j g>q", "book one x>g:z", "book two x>g:w", "keeper n s>a", "book only u>s:o"]
>>> TWO = Net.read("\n".join(HEAD + ["station q m>n t>b", "book one w>t:o z>m:u", "book two w>m:v,t:o z>t:o", "tally a o=1", "tally b o=1"]))
>>> changes = [{"j": ("one", "two")}, {"q": ("one", "two")}, {"j": ("one", "two"), "q": ("one", "two")}]
>>> [Weighting(a=1, b=1)(Course.of(TWO, "d", "x", choices).drift) for choices in changes]
[0, 0, -1]
'''

LATTICES = '''
>>> lattice = Lattice(Vector(a=4, b=1), Vector(a=6))
>>> [str(lattice), str(lattice.reduced(Vector(a=5, b=5))), lattice.numbers(Vector(a=4, b=1)), Vector(a=2) in lattice]
['a=2 b=2 | b=3', 'a=1 b=1', (2, -1), False]
>>> [str(Lattice(Vector(a=2, b=4)).across("a", "b", "c")), lattice.across("b") == Lattice.zero(), Lattice(Vector(b=9)).within(lattice)]
['a=2 b=-1 | c=1', True, True]
'''

DRIFTS = '''
>>> [str(drifts(PLAIN)), str(drifts(KEPT)), str(drifts(KEPT.as_frail("q"))), str(drifts(PLAIN.as_keeper("j"))), str(errors_of(KEPT))]
['a=1 b=-1', 'b=1', 'a=1 | b=1', '0', 'a=1 | b=1']
>>> [str(clean_sums(KEPT)), str(level_sums(PLAIN)), str(level_sums(KEPT)), made_of(PLAIN, Vector(a=1))]
['a=1', 'a=1 b=1', '0', None]
'''

FORMS = '''
>>> [[str(v) for v in form(net).residues[("d", "k")]] for net in (PLAIN, KEPT, KEPT.as_frail("q"))]
[['b=1'], ['0', 'a=1'], ['0']]
>>> [shows_form(KEPT, form(KEPT), form_paper(KEPT)), shows_form(PLAIN, form(KEPT), form_paper(KEPT)), alike(PLAIN, KEPT)[0]]
[True, False, 'unlike']
>>> alike(KEPT, KEPT.with_book("q", "more", Book(u={"s": "o"})))
('alike',)
'''

EXPLAINED = '''
>>> [explained(KEPT, Vector(a=1, b=7), ("d", "k"))[0], explained(KEPT, Vector(a=2), ("d", "k"))[0], explained(PLAIN, Vector(a=1))[0]]
['left', 'never', 'never']
>>> told = explained(KEPT, Vector(a=1, b=2), ("d", "k"), ("d", "k"))
>>> house = played(KEPT, history(KEPT, told[1], told[2]))
>>> [str(house.tallies), list(house.open_items.values()), shows_explained(KEPT, Vector(a=1, b=2), [("d", "k")] * 2, told)]
['a=1 b=2', [('d', 'k'), ('d', 'k')], True]
'''

RECOUNTS = '''
>>> cheap = recount(PLAIN, {"a": 3, "b": 1})
>>> [cheap.counted, cheap.cost, str(cheap.levels["a"][0]), str(cheap.right(Vector(a=5, b=-5), {"b": 0}))]
[('b',), 1, 'a + b', '0']
>>> [recount(KEPT, {"a": 3, "b": 1}).counted, shows_recount(PLAIN, {"a": 3, "b": 1}, (cheap.counted, cheap.levels, cheap.alone))]
[('a', 'b'), True]
'''

MODULES = (alike, books, courses, desk, drifts, errors, explaincheck, explained, formcheck, forms, houses, lattices, names,
           nets, pairs, parts, plancheck, plans, recountcheck, recounts, reports, stations, stories, sumcheck, sums, vectors,
           weightings)

PLANS = '''
>>> told = plan(PLAIN, {"q": 5, "j": 9}, Weighting(a=1))
>>> [told[:2], told[3][0][:2], plan(KEPT.as_station("q"), {"q": 5}, Weighting(a=1), Weighting(b=1))[0]]
[('plan', ('q',)), ((), 0), 'none']
>>> [plan(PLAIN, {"q": 5, "j": 9}, Weighting(a=1), Weighting(b=1))[1], shows_plan(PLAIN, {"q": 5, "j": 9}, [Weighting(a=1)], told)]
[('j',), True]
'''

REPORTS = '''
>>> report(PLAIN).split("|")
['d        j          1\\ng        q          4\\nh        b          3\\ns        a          3\\ndrift a=1 b=-1']
>>> sums_report(KEPT, Weighting(a=1), Weighting(modulo=2, a=1, b=1))
'a                              clean\\na + b mod 2                    drifts'
'''

DESK = '''
>>> desk = Desk()
>>> [desk("net door d j k / station j g>a h>b / book one k>g:o / book two k>h:o / tally a o=1 / tally b o=1"), desk("open d k"), desk("settle")]
['ok', '0', '2']
>>> [desk("book j two"), desk("close 0"), desk("settle"), desk("table"), desk("drifts"), desk("sum a + b"), desk("could a=2 b=-2"), desk("could a=1")]
['ok', 'ok', '2', 'a=1 b=-1', 'a=1 b=-1', 'level', 'left', 'never']
>>> [desk("count a=3 b=1"), desk("undo"), desk("table"), desk("items"), desk("undo"), desk("items")]
['b', 'ok', 'a=1', '-', 'ok', '0:d:k']
>>> desk("move d x")
raises UnknownCommand(2)
'''


class TestExamples(unittest.TestCase):
    def setUp(self):
        self.names = {}
        for module in MODULES:
            self.names.update({name: value for name, value in vars(module).items() if not name.startswith("_")})
        self.run_lines(HEAD)

    def run_lines(self, text):
        """Runs rows of the document: statements, and expressions with what they return or raise behind them."""
        rows = text.strip("\n").split("\n")
        for at, row in enumerate(rows):
            if not row.startswith(">>> "):
                continue
            answer = rows[at + 1] if at + 1 < len(rows) and not rows[at + 1].startswith(">>> ") else None
            if answer is None:
                exec(row[4:], self.names)
            elif answer.startswith("raises "):
                error = eval(answer[7:], self.names)
                with self.assertRaises(type(error)) as caught:
                    eval(row[4:], self.names)
                self.assertEqual((type(caught.exception), vars(caught.exception)), (type(error), vars(error)), row)
            else:
                self.assertEqual(repr(eval(row[4:], self.names)), answer, row)

    def test_vectors(self):
        self.run_lines(VECTORS)

    def test_names_of_parameters(self):
        self.run_lines('''>>> Vector(numbers=3).names\n('numbers',)''')

    def test_books(self):
        self.run_lines(BOOKS)

    def test_stations(self):
        self.run_lines(STATIONS)

    def test_nets(self):
        self.run_lines(NETS)

    def test_houses(self):
        self.run_lines(HOUSES)

    def test_stories(self):
        self.run_lines(STORIES)

    def test_courses(self):
        self.run_lines(COURSES)

    def test_pairs(self):
        self.run_lines(PAIRS)

    def test_weightings(self):
        self.run_lines(WEIGHTINGS)

    def test_sums(self):
        self.run_lines(SUMS)
        self.run_lines(SPOILT)

    def test_lattices(self):
        self.run_lines(LATTICES)

    def test_drifts(self):
        self.run_lines(DRIFTS)

    def test_forms(self):
        self.run_lines(FORMS)

    def test_explained(self):
        self.run_lines(EXPLAINED)

    def test_recounts(self):
        self.run_lines(RECOUNTS)

    def test_plans(self):
        self.run_lines(PLANS)

    def test_reports(self):
        self.run_lines(REPORTS)

    def test_desk(self):
        self.run_lines(DESK)
