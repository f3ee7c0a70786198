import itertools
import random
import unittest

from stonewalker.evenwebs import even_webs
from stonewalker.numbering import renumbered
from stonewalker.seeing import all_seeing, least_seeing, missed, shows_missed
from tests import samples
from tests.samples import LONE, LOOP, MIXED, SELF_DOOR, TWICE, line, ring

SIZES = [(rooms, doors) for rooms in range(1, 10) for doors in range(1, 10) if rooms * doors <= 9]


def rooms_seen(web, room, way):
    rooms = {room}
    for door in way:
        room = web[room][door][0]
        rooms.add(room)
    return rooms


def plain_shows(rooms, doors, way, thing):
    """shows_missed by the words of the point alone."""
    if not samples.plain_is_web(thing) or len(thing) > rooms or {len(ends) for ends in thing} != {doors}:
        return False
    order = [0]
    for room in thing:
        for end in room:
            if end[0] not in order:
                order.append(end[0])
    if order != list(range(len(thing))):
        return False
    return len(rooms_seen(thing, 0, way)) < len(thing)


def webs_of(rooms, doors):
    return [web for many in range(1, rooms + 1) for web in even_webs(many, doors)]


def plain_least(web):
    """The least way of all ways that see all rooms from each."""
    for way in samples.ways(len(web[0]), 9):
        if all(len(rooms_seen(web, room, way)) == len(web) for room in range(len(web))):
            return way
    return None


class MissedTest(unittest.TestCase):
    def test_told(self):
        self.assertIsNone(missed(1, 1, ()))
        self.assertIsNone(missed(1, 9, ()))
        self.assertEqual(missed(2, 1, ()), line(2))
        self.assertIsNone(missed(2, 1, (0,)))
        self.assertIsNone(missed(9, 1, [0]))
        self.assertIsNone(missed(2, 2, (0, 1)))
        self.assertIsNone(missed(2, 2, (1, 0)))
        self.assertEqual(missed(2, 2, (0, 0)), (((0, 0), (1, 0)), ((0, 1), (1, 1))))

    def test_all_short_ways(self):
        for rooms, doors in SIZES:
            webs = webs_of(rooms, doors)
            for way in samples.ways(doors, 3 if doors < 4 else 1):
                told = missed(rooms, doors, way)
                seen_all = all(len(rooms_seen(web, 0, way)) == len(web) for web in webs)
                self.assertEqual(told is None, seen_all)
                if told is not None:
                    self.assertIn(told, webs)
                    self.assertLess(len(rooms_seen(told, 0, way)), len(told))
                    self.assertIs(shows_missed(rooms, doors, way, told), True)

    def test_longer_ways(self):
        nones = 0
        for rooms, doors in [(4, 2), (3, 3), (2, 4), (3, 2), (4, 1)]:
            webs = webs_of(rooms, doors)
            for many in (5, 8, 12, 20, 40, 60, 200):
                chance = random.Random(many)
                way = tuple(chance.randrange(doors) for _ in range(many))
                told = missed(rooms, doors, way)
                seen_all = all(len(rooms_seen(web, 0, way)) == len(web) for web in webs)
                self.assertEqual(told is None, seen_all)
                nones += told is None
                self.assertIs(shows_missed(rooms, doors, way, told), told is not None)
        self.assertIn(nones, range(8, 34))

    def test_very_long_ways(self):
        self.assertIsNone(missed(3, 3, all_seeing(3, 3) + (0,) * 3000))
        self.assertIsNotNone(missed(3, 3, (0, 1) * 1500))

    def test_webs_of_fewer_rooms_count(self):
        # Behind one web that the way misses, more rooms don't help.
        for rooms, doors in [(3, 2), (4, 2), (3, 3)]:
            for way in samples.ways(doors, 2):
                told = missed(rooms - 1, doors, way)
                if told is not None:
                    self.assertIsNotNone(missed(rooms, doors, way))
                    self.assertIs(shows_missed(rooms, doors, way, told), True)

    def test_the_way_stays(self):
        way = [0, 1, 1]
        self.assertEqual(missed(3, 2, way), missed(3, 2, way))
        self.assertEqual(way, [0, 1, 1])


class ShowsMissedTest(unittest.TestCase):
    def test_told(self):
        two = (((0, 0), (1, 0)), ((0, 1), (1, 1)))
        self.assertIs(shows_missed(2, 2, (0, 0), two), True)
        self.assertIs(shows_missed(2, 2, [0, 0], two), True)
        self.assertIs(shows_missed(3, 2, (0, 0), two), True)
        self.assertIs(shows_missed(2, 2, (), two), True)
        # Ones that the way does see.
        self.assertIs(shows_missed(2, 2, (0, 1), two), False)
        self.assertIs(shows_missed(2, 2, (0, 0), TWICE), False)
        self.assertIs(shows_missed(2, 2, (), LOOP), False)
        self.assertIs(shows_missed(1, 1, (), SELF_DOOR), False)
        # Too many rooms, other doors, not even.
        self.assertIs(shows_missed(1, 2, (0, 0), two), False)
        self.assertIs(shows_missed(2, 3, (0, 0), two), False)
        self.assertIs(shows_missed(2, 1, (0, 0), two), False)
        self.assertIs(shows_missed(3, 2, (), line(3)), False)
        self.assertIs(shows_missed(3, 1, (), line(3)), False)
        self.assertIs(shows_missed(3, 3, (), MIXED), False)
        self.assertIs(shows_missed(1, 1, (), LONE), False)

    def test_told_from_another_room(self):
        shown = 0
        for web in even_webs(3, 2) + even_webs(4, 2) + even_webs(3, 3)[::20]:
            for numbers in itertools.permutations(range(len(web))):
                other = renumbered(web, numbers)
                wanted = plain_shows(len(web), len(web[0]), (0,), other)
                shown += wanted
                self.assertIs(shows_missed(len(web), len(web[0]), (0,), other), wanted)
        self.assertGreater(shown, 50)

    def test_all_webs_of_a_size(self):
        for rooms, doors in [(2, 2), (3, 2), (2, 3), (4, 2)]:
            webs = webs_of(rooms + 1, doors) + webs_of(2, doors + 1) + webs_of(2, doors - 1)
            for way in samples.ways(doors, 3):
                for web in webs:
                    wanted = plain_shows(rooms, doors, way, web)
                    self.assertIs(shows_missed(rooms, doors, way, web), wanted)

    def test_anything(self):
        for thing in samples.odd_things():
            for rooms, doors in SIZES:
                self.assertIs(shows_missed(rooms, doors, (0,), thing), False)
                self.assertIs(shows_missed(rooms, doors, (), (thing,)), False)

    def test_spoilt_webs(self):
        shown = 0
        for place, web in enumerate([missed(2, 1, ()), missed(3, 2, (0,)), missed(4, 2, (0, 1, 0)),
                                     missed(3, 3, (0, 1)), even_webs(4, 2)[30]]):
            for seed in range(800):
                thing = samples.spoilt(web, seed * 5 + place)
                wanted = plain_shows(4, len(web[0]), (0,), thing)
                shown += wanted
                self.assertIs(shows_missed(4, len(web[0]), (0,), thing), wanted)
        self.assertGreater(shown, 0)


class AllSeeingTest(unittest.TestCase):
    def test_all_sizes(self):
        for rooms, doors in SIZES:
            way = all_seeing(rooms, doors)
            self.assertIs(type(way), tuple)
            self.assertTrue(all(type(door) is int and 0 <= door < doors for door in way))
            self.assertIsNone(missed(rooms, doors, way))
            for web in webs_of(rooms, doors):
                self.assertEqual(len(rooms_seen(web, 0, way)), len(web))

    def test_the_same_question_is_told_the_same(self):
        self.assertEqual(all_seeing(4, 2), all_seeing(4, 2))


class LeastSeeingTest(unittest.TestCase):
    def test_told(self):
        for doors in range(1, 10):
            for web in even_webs(1, doors)[:20]:
                self.assertEqual(least_seeing(web), ())
        self.assertEqual(least_seeing(line(2)), (0,))
        self.assertEqual(least_seeing(ring(2)), (0,))
        self.assertEqual(least_seeing(ring(4)), (0, 0, 0))
        self.assertEqual(least_seeing(((((0, 0), (1, 0)), ((0, 1), (1, 1))))), (0, 1))
        row = samples.joined([2] * 4, [((0, 0), (0, 0)), ((0, 1), (1, 0)), ((1, 1), (2, 0)), ((2, 1), (3, 0)),
                                       ((3, 1), (3, 1))])
        self.assertEqual(least_seeing(row), (0, 0, 0, 1, 1, 1))

    def test_the_least_of_all_ways(self):
        for rooms, doors in SIZES:
            webs = even_webs(rooms, doors)
            for web in webs[::1 + len(webs) // 40]:
                told = least_seeing(web)
                self.assertIs(type(told), tuple)
                self.assertEqual(told, plain_least(web))

    def test_webs_under_other_numbers(self):
        for web in even_webs(4, 2)[::3] + even_webs(3, 3)[::60]:
            for numbers in itertools.permutations(range(len(web))):
                self.assertEqual(least_seeing(renumbered(web, numbers)), least_seeing(web))


if __name__ == "__main__":
    unittest.main()
