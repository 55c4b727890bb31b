import itertools
import unittest

from common import Case, chances, names, random_watch

from dimkeeper.implied import Apart, implied, shows_implied
from dimkeeper.judged import settled
from dimkeeper.round_lassos import ring_of_rounds
from dimkeeper.watches import Watch

R, D = ["r", "s"], ["a"]


def least_size(one, other, most):
    """How many pairs the shortest reading has that, read again and again, breaks other and not one; None above most."""
    signs = [(label, deed) for label in one.labels for deed in one.deeds]
    for size in range(1, most + 1):
        for reading in itertools.product(signs, repeat=size):
            if any(shows_implied(one, other, Apart(reading, ring)) for ring in range(size)):
                return size
    return None


def turning(many, more, at):
    """Two watches that r turns; s is let at the first watch state of the one, and breaks the other at one of its own."""
    one = Watch(R, D, [(f"c{now}", [[f"c{(now + 1) % many}"], ["c0" if now == 0 else "broken"]]) for now in range(many)])
    other = Watch(R, D, [(f"d{now}", [[f"d{(now + 1) % more}"], ["broken" if now == at else f"d{now}"]])
                         for now in range(more)])
    return one, other


class Rounds(Case):

    def test_by_hand(self):
        seen = {}
        for chance in chances(300):
            labels, deeds = names("l", 2), names("d", chance.randint(1, 2))
            one, other = random_watch(chance, labels, deeds, 5, 0.55), random_watch(chance, labels, deeds, 5, 0.07)
            if one.is_hopeless:
                continue
            most = 5 if len(deeds) == 1 else 3
            least = least_size(one, other, most)
            seen[least] = seen.get(least, 0) + 1
            for size in range(1, most + 1):
                found = ring_of_rounds(settled(one), other, size)
                self.assertIs(found is None, least is None or size < least)
                if found is not None:
                    self.assertLessEqual(len(found[0]), size)
                    self.assertIs(shows_implied(one, other, Apart(*found)), True)
        self.assertTrue({None, 1, 2, 3} <= set(seen), seen)

    def test_late_rounds(self):
        for many, more, at in ((3, 4, 2), (4, 5, 2), (5, 6, 1), (5, 7, 6), (4, 3, 2), (6, 4, 3)):
            one, other = turning(many, more, at)
            least = least_size(one, other, many + 1)
            self.assertEqual(ring_of_rounds(one, other, many + 1) is None, least is None)
            if least is not None:
                self.assertIsNone(ring_of_rounds(one, other, least - 1))
                self.assertEqual(len(ring_of_rounds(one, other, least)[0]), least)

    def test_none_is_longer_than_it_must_be(self):
        # Behind a way of its own each one turns: at most 200 pairs where 200 are enough, also when rounds are many.
        for many, more, at in ((150, 151, 80), (101, 199, 50), (199, 199, 0)):
            one, other = turning(many, more, at)
            paper = implied(one, other)
            self.assertIs(shows_implied(one, other, paper), True)
            self.assertFalse(paper)
            self.assertLessEqual(len(paper.reading), 200)

    def test_a_way_ahead_of_the_rounds(self):
        signs = ["q", "r", "s"]
        one = Watch(signs, D, [("b0", [["b1"], ["broken"], ["broken"]]), ("b1", [["c0"], ["broken"], ["broken"]])]
                    + [(f"c{at}", [["broken"], [f"c{(at + 1) % 9}"], ["c0" if at == 0 else "broken"]]) for at in range(9)])
        other = Watch(signs, D, [(f"d{at}", [[f"d{at}"], [f"d{(at + 1) % 10}"], ["broken" if at == 5 else f"d{at}"]])
                                 for at in range(10)])
        for most, is_found in ((11, False), (12, True)):
            found = ring_of_rounds(one, other, most)
            self.assertIs(found is not None, is_found)
        self.assertEqual((len(found[0]), found[1]), (12, 2))
        self.assertIs(shows_implied(one, other, Apart(*found)), True)

    def test_two_places_in_each_round(self):
        # Each round must read s at one place and t at another one; between them no other ring can be closed.
        signs = ["r", "s", "t"]
        for many, more, places in ((4, 5, (1, 3)), (3, 4, (0, 2)), (4, 3, (2, 3)), (3, 5, (1, 2))):
            one = Watch(signs, D, [(f"c{at}", [[f"c{(at + 1) % many}"], [f"c{at}" if at == places[0] else "broken"],
                                               [f"c{at}" if at == places[1] else "broken"]]) for at in range(many)])
            # Other breaks at a t behind an s at d1, once it stands at d0.
            rows = []
            for at in range(more):
                rows.append((f"d{at}", [[f"d{(at + 1) % more}"], [f"e{at}" if at == 1 else f"d{at}"], [f"d{at}"]]))
                rows.append((f"e{at}", [[f"e{(at + 1) % more}"], [f"e{at}"], ["broken" if at == 0 else f"e{at}"]]))
            other = Watch(signs, D, rows)
            least = least_size(one, other, many + 2)
            for most in range(1, many + 3):
                found = ring_of_rounds(one, other, most)
                self.assertEqual(found is None, least is None or most < least, (many, more, most))
                if found is not None:
                    self.assertLessEqual(len(found[0]), most)
                    self.assertIs(shows_implied(one, other, Apart(*found)), True)

    def test_one_that_comes_back_late(self):
        # r turns the one between two watch states and s breaks at neither; other breaks at every sixth r.
        one = Watch(R, D, [("x", [["y"], ["broken"]]), ("y", [["x"], ["broken"]])])
        other = Watch(R, D, [(f"d{at}", [["broken" if at == 5 else f"d{at + 1}"], [f"d{at}"]]) for at in range(6)])
        self.assertEqual(ring_of_rounds(one, other, 1), ((("r", "a"),), 0))


if __name__ == "__main__":
    unittest.main()
