import itertools
import unittest

from stonewalker.pairing import pairing, shows_pairing
from stonewalker.parting import parting
from tests import samples
from tests.samples import LONE, LOOP, MIXED, SELF_DOOR, TWICE, TWICE_ACROSS, line, ring


def plain_shown(one, a, other, b, thing):
    """shows_pairing by the words of the point alone."""
    if type(thing) not in (list, tuple):
        return False
    for pair in thing:
        if type(pair) not in (list, tuple) or len(pair) != 2 or any(type(part) is not int for part in pair):
            return False
        if pair[0] not in range(len(one)) or pair[1] not in range(len(other)):
            return False
    pairs = [tuple(pair) for pair in thing]
    for r, s in pairs:
        if len(one[r]) != len(other[s]):
            return False
        for left, right in zip(one[r], other[s]):
            if left[1] != right[1] or (left[0], right[0]) not in pairs:
                return False
    return (a, b) in pairs


class PairingTest(unittest.TestCase):
    def test_told_pairings(self):
        self.assertEqual(pairing(LONE, 0, LONE, 0), [(0, 0)])
        self.assertEqual(pairing(LOOP, 0, ring(3), 1), [(0, 0), (0, 1), (0, 2)])
        self.assertEqual(pairing(ring(3), 1, LOOP, 0), [(0, 0), (1, 0), (2, 0)])
        self.assertEqual(pairing(ring(4), 0, ring(4), 1), [(0, 1), (1, 2), (2, 3), (3, 0)])
        self.assertEqual(pairing(ring(2), 0, ring(4), 1), [(0, 1), (0, 3), (1, 0), (1, 2)])
        self.assertEqual(pairing(TWICE, 0, TWICE, 1), [(0, 1), (1, 0)])
        self.assertEqual(pairing(SELF_DOOR, 0, line(2), 1), [(0, 0), (0, 1)])
        self.assertEqual(pairing(MIXED, 1, MIXED, 1), [(0, 0), (1, 1), (2, 2)])

    def test_rooms_apart(self):
        self.assertIsNone(pairing(LONE, 0, SELF_DOOR, 0))
        self.assertIsNone(pairing(TWICE, 0, TWICE_ACROSS, 0))
        self.assertIsNone(pairing(line(24), 11, line(24), 12))

    def test_by_all_ways(self):
        told_pairings = 0
        for one, other in samples.COUPLES[::3]:
            for a, b in itertools.product(range(len(one)), range(len(other))):
                told = pairing(one, a, other, b)
                self.assertEqual(told is None, parting(one, a, other, b) is not None)
                if told is None:
                    continue
                wanted = set()
                for way in samples.ways(samples.most_doors(one), len(one) * len(other)):
                    ends = samples.plain_gone(one, a, way), samples.plain_gone(other, b, way)
                    if None not in ends:
                        wanted.add((ends[0][0], ends[1][0]))
                self.assertEqual(told, sorted(wanted))
                self.assertTrue(type(told) is list and all(type(pair) is tuple for pair in told))
                told_pairings += 1
        self.assertGreater(told_pairings, 20)

    def test_webs_to_the_bounds(self):
        self.assertEqual(pairing(samples.GREAT_ALIKE, 0, samples.GREAT_ALIKE, 5),
                         sorted((room, (room + 5) % 24) for room in range(24)))
        for web in samples.GREAT:
            for a, b in itertools.product(range(0, 24, 2), range(24)):
                told = pairing(web, a, web, b)
                self.assertEqual(told is None, parting(web, a, web, b) is not None)
                if told is not None:
                    self.assertEqual(told, sorted(set(told)))
                    self.assertIs(shows_pairing(web, a, web, b, told), True)

    def test_told_list_is_the_askers_own(self):
        told = pairing(ring(4), 0, ring(4), 1)
        told.append(None)
        told[0] = (9, 9)
        self.assertEqual(pairing(ring(4), 0, ring(4), 1), [(0, 1), (1, 2), (2, 3), (3, 0)])
        self.assertIsNot(pairing(ring(4), 0, ring(4), 1), pairing(ring(4), 0, ring(4), 1))


class ShowsPairingTest(unittest.TestCase):
    def test_lists_and_tuples(self):
        for outer, inner in itertools.product([list, tuple], repeat=2):
            pairs = outer(inner(pair) for pair in pairing(ring(2), 0, ring(4), 1))
            self.assertIs(shows_pairing(ring(2), 0, ring(4), 1, pairs), True)
            self.assertIs(shows_pairing(ring(2), 1, ring(4), 1, pairs), False)
        self.assertIs(shows_pairing(ring(2), 0, ring(4), 1, ([0, 1], (1, 2), [0, 3], (1, 0))), True)

    def test_more_pairs_than_are_come_to(self):
        every = [(r, s) for r in range(4) for s in range(4)]
        self.assertIs(shows_pairing(ring(4), 0, ring(4), 1, every), True)
        self.assertIs(shows_pairing(ring(4), 0, ring(4), 1, every[::-1] + every), True)
        self.assertIs(shows_pairing(line(3), 0, line(3), 0, [(0, 0), (1, 1), (2, 2), (0, 2)]), False)

    def test_too_few_pairs(self):
        told = pairing(ring(4), 0, ring(4), 1)
        self.assertIs(shows_pairing(ring(4), 0, ring(4), 1, []), False)
        self.assertIs(shows_pairing(ring(4), 0, ring(4), 1, ()), False)
        for place in range(4):
            self.assertIs(shows_pairing(ring(4), 0, ring(4), 1, told[:place] + told[place + 1:]), False)
        self.assertIs(shows_pairing(ring(4), 0, ring(4), 2, told), False)

    def test_rooms_apart(self):
        every = [(0, 0), (0, 1), (1, 0), (1, 1)]
        self.assertIs(shows_pairing(TWICE, 0, TWICE_ACROSS, 0, every), False)
        self.assertIs(shows_pairing(LONE, 0, SELF_DOOR, 0, [(0, 0)]), False)
        self.assertIs(shows_pairing(SELF_DOOR, 0, LONE, 0, [(0, 0)]), False)
        self.assertIs(shows_pairing(line(3), 0, line(3), 2, [(r, s) for r in range(3) for s in range(3)]), False)

    def test_true_and_false_are_no_numbers(self):
        self.assertIs(shows_pairing(LONE, 0, LONE, 0, [(0, 0)]), True)
        self.assertIs(shows_pairing(LONE, 0, LONE, 0, [(False, 0)]), False)
        self.assertIs(shows_pairing(LONE, 0, LONE, 0, [(0, False)]), False)
        self.assertIs(shows_pairing(TWICE, 0, TWICE, 0, [(0, 0), (True, 1)]), False)
        self.assertIs(shows_pairing(TWICE, 0, TWICE, 0, [(0, 0), (1, 1), (True, True)]), False)

    def test_numbers_that_are_no_rooms(self):
        for pair in [(1, 0), (0, 1), (-1, 0), (0, -1), (-1, -1), (10 ** 30, 0), (0, 10 ** 30)]:
            self.assertIs(shows_pairing(LONE, 0, LONE, 0, [(0, 0), pair]), False)
            self.assertIs(shows_pairing(LONE, 0, LONE, 0, [pair]), False)
        self.assertIs(shows_pairing(LONE, 0, ring(2), 0, [(0, 0), (0, 1)]), False)
        self.assertIs(shows_pairing(LOOP, 0, ring(2), 0, [(0, 0), (0, -1)]), False)
        self.assertIs(shows_pairing(LOOP, 0, ring(2), 0, [(0, 0), (0, 1), (1, 1)]), False)
        self.assertIs(shows_pairing(LOOP, 0, ring(2), 0, [(0, 0), (0, 1), (0, 2)]), False)

    def test_anything_is_told_true_or_false(self):
        for thing in samples.odd_things():
            for one, other in [(LONE, LONE), (LOOP, ring(2)), (TWICE, TWICE_ACROSS)]:
                self.assertIs(shows_pairing(one, 0, other, 0, thing), False)
                self.assertIs(shows_pairing(one, 0, other, 0, [thing]), False)
                self.assertIs(shows_pairing(one, 0, other, 0, ((0, 0), thing)), False)
                alike = one == LONE and thing == 0 and thing is not False
                self.assertIs(shows_pairing(one, 0, other, 0, [(0, thing)]), alike)
                self.assertIs(shows_pairing(one, 0, other, 0, [[thing, 0]]), alike)

    def test_spoilt_pairings(self):
        couples = [(ring(2), 0, ring(4), 1), (MIXED, 0, MIXED, 0), (LOOP, 0, ring(3), 2), (TWICE, 0, TWICE, 1)]
        shown = 0
        for seed in range(4000):
            couple = couples[seed % 4]
            thing = samples.spoilt(pairing(*couple), seed)
            wanted = plain_shown(*couple, thing)
            shown += wanted
            self.assertIs(shows_pairing(*couple, thing), wanted, thing)
        self.assertGreater(shown, 20)

    def test_what_is_handed_in_stays(self):
        pairs = [[0, 1], [1, 0]]
        self.assertIs(shows_pairing(TWICE, 0, TWICE, 1, pairs), True)
        self.assertEqual(pairs, [[0, 1], [1, 0]])


if __name__ == "__main__":
    unittest.main()
