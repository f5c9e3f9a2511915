"""Clean and level weightings, and what is told of them."""

import itertools
import random

from evenends.courses import Course
from evenends.errors import UnknownName
from evenends.nets import Net
from evenends.pairs import pairs
from evenends.stories import played
from evenends.sumcheck import shows_clean, shows_level
from evenends.sums import clean, level
from evenends.weightings import Weighting
from tests.model import every_course, small_net
from tests.samples import FRAIL, KEPT, PLAIN, TWO, Case
from tests.test_sumcheck import BOTH, NUMBERS, WORTHS

WEIGHTINGS = [Weighting.of({"a": one, "b": other}, modulo) for modulo in (0, 2, 3, 4)
              for one, other in itertools.product((0, 1, 2, -1), repeat=2)]


class TestSums(Case):
    def look(self, net, weighting, told):
        """Checks clean and level against courses gone through one by one; returns the word that level tells."""
        firsts = {}
        for course in told:
            firsts.setdefault((course.door, course.kind), course.begin)
        is_clean = all(weighting(course.drift) == 0 for course in told)
        is_level = is_clean and all(weighting(course.begin) == weighting(firsts[course.door, course.kind])
                                    for course in told)
        one, other = clean(net, weighting), level(net, weighting)
        self.assertIs(type(one), tuple)
        self.assertIs(type(other), tuple)
        self.assertIs(shows_clean(net, weighting, one), True)
        self.assertIs(shows_level(net, weighting, other), True)
        met = [(wire, *pair) for wire, row in pairs(net).items() for pair in row]
        if not is_clean:
            self.assertEqual((one[0], other[0], len(one), len(other)), ("drifts", "drifts", 2, 2))
            for course in (one[1], other[1]):
                self.assertEqual(course.net, net)
                self.assertNotEqual(weighting(course.drift), 0)
                self.assertNotEqual(weighting(played(net, course.story()).tallies), 0)
            return "drifts"
        self.assertEqual((one[0], len(one)), ("clean", 2))
        self.keeps(one[1], met, weighting)
        if not is_level:
            self.assertEqual((other[0], len(other)), ("begins", 3))
            self.assertEqual((other[1].net, other[1].door, other[1].kind), (net, other[2].door, other[2].kind))
            self.assertEqual(other[2].net, net)
            self.assertNotEqual(weighting(other[1].begin), weighting(other[2].begin))
            sums = [weighting(played(net, course.story(closes=False)).tallies) for course in other[1:]]
            self.assertNotEqual(*sums)
            return "begins"
        self.assertEqual((other[0], len(other), other[1]), ("level", 3, one[1]))
        self.keeps(other[2], {(wire, begin) for wire, begin, end in met if begin is not None}, weighting)
        for key in firsts:
            self.assertEqual(other[2][key], weighting(firsts[key]))
        return "level"

    def keeps(self, table, keys, weighting):
        """Checks the keys of worths or numbers, and that they are remainders."""
        self.assertIs(type(table), dict)
        self.assertEqual(sorted(map(str, table)), sorted(map(str, keys)))
        for number in table.values():
            self.assertIs(type(number), int)
            if weighting.modulo:
                self.assertTrue(0 <= number < weighting.modulo)

    def test_ordinary(self):
        self.assertEqual(clean(PLAIN, BOTH), ("clean", WORTHS))
        self.assertEqual(level(net=PLAIN, weighting=BOTH), ("level", WORTHS, NUMBERS))
        self.assertEqual(clean(net=KEPT, weighting=BOTH)[0], "drifts")

    def test_samples(self):
        told = {}
        for name, net in (("plain", PLAIN), ("kept", KEPT), ("frail", FRAIL), ("two", TWO),
                          ("above", PLAIN.as_keeper("j")), ("both", KEPT.as_frail("j"))):
            courses = list(every_course(net))
            told[name] = [self.look(net, weighting, courses) for weighting in WEIGHTINGS]
        self.assertEqual(sorted(set(told["plain"])), ["drifts", "level"])
        self.assertEqual(sorted(set(told["kept"])), ["begins", "drifts", "level"])

    def test_words(self):
        for net, weighting, words in ((PLAIN, BOTH, ("clean", "level")), (KEPT, BOTH, ("drifts", "drifts")),
                                      (KEPT, Weighting(a=1), ("clean", "begins")),
                                      (FRAIL, Weighting(a=1), ("drifts", "drifts")),
                                      (FRAIL, BOTH, ("drifts", "drifts")),
                                      (PLAIN.as_keeper("j"), Weighting(a=1), ("clean", "begins")),
                                      (PLAIN, Weighting(2, a=1, b=-1), ("clean", "level")),
                                      (KEPT, Weighting(), ("clean", "level")), (Net(), Weighting(), ("clean", "level")),
                                      (Net(), Weighting(2), ("clean", "level"))):
            self.assertEqual((clean(net, weighting)[0], level(net, weighting)[0]), words)
        self.assertEqual((clean(Net(), Weighting()), level(Net(), Weighting())), (("clean", {}), ("level", {}, {})))

    def test_a_memory_can_spoil_a_sum(self):
        self.assertEqual([clean(PLAIN, BOTH)[0], clean(KEPT, BOTH)[0], clean(FRAIL, BOTH)[0]],
                         ["clean", "drifts", "drifts"])
        self.assertEqual([clean(PLAIN, Weighting(a=1))[0], clean(KEPT, Weighting(a=1))[0]], ["drifts", "clean"])

    def test_two_exchanges_can_spoil_a_sum_together(self):
        told = clean(TWO, BOTH)
        self.assertEqual(told[0], "drifts")
        for station in ("j", "q"):
            other = Course.of(TWO, "d", "x", {station: ("one", "two")})
            self.assertEqual(BOTH(other.drift), 0)
            other = Course.of(TWO, "d", "x", {station: ("two", "one")})
            self.assertEqual(BOTH(other.drift), 0)
        self.assertEqual(BOTH(Course(TWO, "d", "x", j=("one", "two"), q=("one", "two")).drift), -1)

    def test_small_nets(self):
        chance = random.Random(61)
        seen = {}
        for _ in range(150):
            net = small_net(chance, 1500)
            told = list(every_course(net))
            for modulo in (0, 0, 2, chance.choice([3, 4, 6])):
                weighting = Weighting.of({name: chance.randint(-3, 3) for name in net.tallies}, modulo)
                word = self.look(net, weighting, told)
                seen[word] = seen.get(word, 0) + 1
        self.assertGreater(min(seen.values()), 40)
        self.assertEqual(sorted(seen), ["begins", "drifts", "level"])

    def test_big_moduli(self):
        for modulo in (10 ** 6, 10 ** 60 - 1):
            weighting = Weighting(modulo, a=1, b=1)
            told = level(PLAIN, weighting)
            self.assertEqual(told[2], NUMBERS)
            self.assertEqual(told[1], {key: worth % modulo for key, worth in WORTHS.items()})

    def test_unknown_names(self):
        for net, weighting, name in ((PLAIN, Weighting(a=1, c=1, z=1), "c"), (PLAIN, Weighting(z=1, j=1, c=0), "j"),
                                     (KEPT, Weighting(2, z=1, y=2), "z"), (Net(), Weighting(a=1), "a")):
            for function in (clean, level):
                self.refused(UnknownName, {"name": name}, function, net, weighting)
        self.assertEqual(clean(PLAIN, Weighting(2, z=2))[0], "clean")

    def test_what_is_told_is_new(self):
        told = level(PLAIN, BOTH)
        told[1].clear()
        told[2].clear()
        self.assertEqual(level(PLAIN, BOTH), ("level", WORTHS, NUMBERS))
        self.assertEqual(clean(PLAIN, BOTH), ("clean", WORTHS))
