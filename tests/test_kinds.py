import unittest

from stonewalker.kinds import kinds, kinds_by
from stonewalker.parting import parting
from tests import samples
from tests.samples import LONE, LOOP, MIXED, SELF_DOOR, TWICE, line, ring


def plain_kinds(web, steps):
    """Rooms by all that is seen on all ways of at most so many doors."""
    found = {}
    for room in range(len(web)):
        sights = tuple(samples.plain_seen(web, room, way) for way in samples.ways(samples.most_doors(web), steps))
        found.setdefault(sights, []).append(room)
    return sorted(found.values())


class KindsTest(unittest.TestCase):
    def test_told_kinds(self):
        self.assertEqual(kinds(LONE), [[0]])
        self.assertEqual(kinds(SELF_DOOR), [[0]])
        self.assertEqual(kinds(LOOP), [[0]])
        self.assertEqual(kinds(TWICE), [[0, 1]])
        self.assertEqual(kinds(MIXED), [[0], [1], [2]])
        self.assertEqual(kinds(ring(5)), [[0, 1, 2, 3, 4]])
        self.assertEqual(kinds(line(24)), [[room] for room in range(24)])
        # Two doors of the same number tied make a line that can't be told from its other end.
        doubled = samples.joined([1, 2, 2, 1], [((0, 0), (1, 0)), ((1, 1), (2, 1)), ((2, 0), (3, 0))])
        self.assertEqual(kinds(doubled), [[0, 3], [1, 2]])

    def test_kinds_are_rooms_that_no_way_parts(self):
        for web in samples.NAMED + samples.GREAT + samples.SMALL:
            told = kinds(web)
            self.assertEqual(sorted(room for kind in told for room in kind), list(range(len(web))))
            self.assertEqual(told, sorted(told))
            self.assertTrue(all(kind == sorted(kind) for kind in told))
            numbers = {room: place for place, kind in enumerate(told) for room in kind}
            for a in range(len(web)):
                for b in range(a):
                    self.assertEqual(numbers[a] == numbers[b], parting(web, a, web, b) is None)

    def test_kinds_by_few_steps(self):
        self.assertEqual(kinds_by(line(5), 0), [[0, 4], [1, 2, 3]])
        self.assertEqual(kinds_by(line(5), 1), [[0], [1], [2], [3], [4]])
        self.assertEqual(kinds_by(line(7), 0), [[0, 6], [1, 2, 3, 4, 5]])
        self.assertEqual(kinds_by(line(7), 1), [[0], [1], [2, 3, 4], [5], [6]])
        self.assertEqual(kinds_by(line(7), 2), [[room] for room in range(7)])
        self.assertEqual(kinds_by(LONE, 0), [[0]])

    def test_kinds_by_all_ways(self):
        for web in samples.NAMED[:10] + samples.SMALL:
            for steps in range(4):
                self.assertEqual(kinds_by(web, steps), plain_kinds(web, steps))

    def test_many_more_steps_than_rooms(self):
        for web in samples.NAMED + samples.GREAT:
            for steps in [len(web), 60, 1000, 10 ** 40]:
                self.assertEqual(kinds_by(web, steps), kinds(web))

    def test_each_step_of_a_line_counts(self):
        for steps in range(11):
            middle = list(range(steps + 1, 23 - steps))
            wanted = [[room] for room in range(24) if room not in middle] + [middle]
            if steps == 0:
                wanted = [[0, 23], middle]
            self.assertEqual(kinds_by(line(24), steps), sorted(wanted))
        self.assertEqual(kinds_by(line(24), 10), sorted([[r] for r in range(24) if r not in (11, 12)] + [[11, 12]]))
        self.assertEqual(kinds_by(line(24), 11), [[room] for room in range(24)])

    def test_told_lists_are_the_askers_own(self):
        for ask in [kinds, lambda web: kinds_by(web, 0), lambda web: kinds_by(web, 99)]:
            for web in [ring(4), line(4), LONE]:
                wanted = [list(kind) for kind in ask(web)]
                told = ask(web)
                again = ask(web)
                told[0].append("more")
                self.assertEqual(told[1:], wanted[1:])
                told.append(None)
                self.assertEqual(again, wanted)
                self.assertEqual(ask(web), wanted)
                lists = [again] + again
                self.assertEqual(len({id(one) for one in lists}), len(lists))
                self.assertTrue(all(type(one) is list for one in lists))


if __name__ == "__main__":
    unittest.main()
