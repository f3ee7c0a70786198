import itertools
import random
import unittest

from stonewalker.home import telling_way, way_home
from stonewalker.stories import stands, story_of
from tests import samples
from tests.samples import LONE, LOOP, MIXED, SELF_DOOR, TWICE, chance_way, line, ring

SHEETS = samples.sheeted_whole((((1, 0), (1, 2)), ((0, 0), (1, 1), (0, 1))), 3)
UP_TO_SIX = [web for web in samples.NAMED if len(web) <= 6] + samples.SMALL[::4] + [
    line(6), ring(5), samples.sheeted_whole(MIXED, 2), SHEETS] + [
    samples.shuffled_web([3] * many, many) for many in (4, 5, 6)]
# Rooms whose only door leads to a middle room.
STAR = (((3, 0),), ((3, 1),), ((3, 2),), ((0, 0), (1, 0), (2, 0)))
# Out of a room with one door all go by door 0, which leads them to and fro.
TO_AND_FRO = [
    ((((1, 0),), ((0, 0), (2, 2), (1, 2)), ((3, 0), (2, 1), (1, 1)), ((2, 0),)), [1, 2, 0]),
    ((((1, 0),), ((0, 0), (2, 0)), ((1, 1), (3, 1)), ((4, 0), (2, 1)), ((3, 0),)), [0, 1, 3]),
    ((((1, 0),), ((0, 0), (2, 1)), ((3, 0), (1, 1)), ((2, 0), (3, 1))), [0, 1, 2, 3]),
    ((((1, 0),), ((0, 0), (2, 0)), ((1, 1), (3, 0)), ((2, 1), (4, 1)), ((5, 0), (3, 1)), ((4, 0),)), [0, 3, 5, 1]),
]


def first_way(web, most, is_it):
    """The least way of at most so many doors that is taken, among all ways; None where there is none."""
    for way in samples.ways(samples.most_doors(web), most):
        if is_it(way):
            return way
    return None


def plain_way_home(web, story):
    pairs = stands(web, story)
    if not pairs:
        return None

    def is_it(way):
        return all((samples.plain_gone(web, last, way) or (None,))[0] == first for first, last in pairs)

    return first_way(web, len(story[1]), is_it)


def tells(web, rooms, way):
    """Whether the way is possible from all, and unlike from any two that are apart."""
    looks = {room: samples.plain_seen(web, room, way) for room in rooms}
    if None in looks.values():
        return False
    return all(looks[one] != looks[other] for one, other in itertools.combinations(rooms, 2)
               if other not in samples.plain_kind(web, one))


class WayHomeTest(unittest.TestCase):
    def test_told(self):
        self.assertEqual(way_home(LONE, (0, ())), ())
        self.assertEqual(way_home(line(4), story_of(line(4), 0, (0, 1, 1))), (0, 0, 0))
        self.assertEqual(way_home(line(4), story_of(line(4), 0, (0, 1, 0, 0))), ())
        self.assertEqual(way_home(ring(4), (2, ((0, 1, 2),) * 3)), (0,))
        self.assertEqual(way_home(ring(4), (2, ((0, 1, 2),) * 2)), (0, 0))
        self.assertEqual(way_home(ring(4), (2, ((1, 0, 2),) * 2)), (0, 0))
        self.assertEqual(way_home(ring(4), (2, ((0, 1, 2),) * 4)), ())
        self.assertEqual(way_home(ring(5), (2, ((0, 1, 2),) * 12)), (1, 1))
        self.assertEqual(way_home(SELF_DOOR, (1, ((0, 0, 1),) * 5)), ())
        self.assertEqual(way_home(LOOP, (2, ((0, 1, 2),))), ())
        self.assertEqual(way_home(TWICE, (2, ((1, 1, 2),))), (0,))

    def test_the_story_stands_nowhere(self):
        for web in UP_TO_SIX:
            self.assertIsNone(way_home(web, (7, ())))
            self.assertIsNone(way_home(web, (len(web[0]), ((9, 0, 1),))))
        self.assertIsNone(way_home(ring(4), (2, ((0, 0, 2),))))

    def test_no_steps(self):
        for web in UP_TO_SIX:
            self.assertEqual(way_home(web, (len(web[0]), ())), ())

    def test_for_each_room_where_it_may_stand(self):
        web = samples.joined([2, 2, 2, 2], [((0, 1), (1, 0)), ((1, 1), (2, 0)), ((2, 1), (3, 0)),
                                            ((0, 0), (0, 0)), ((3, 1), (3, 1))])
        story = (2, ((0, 1, 2), (1, 0, 2), (1, 0, 2)))
        self.assertEqual(stands(web, story), [(1, 2), (2, 3)])
        self.assertEqual(way_home(web, story), (0,))

    def test_all_short_ways(self):
        shorter = several = longer = 0
        for seed, web in enumerate(UP_TO_SIX):
            for room in range(len(web)):
                for many in (0, 1, 2, 3, 5):
                    story = story_of(web, room, chance_way(web, room, many, seed + many))
                    wanted = plain_way_home(web, story)
                    self.assertEqual(way_home(web, story), wanted)
                    shorter += len(wanted) < len(story[1])
                    several += len(stands(web, story)) > 1 and len(wanted) > 0
                    # From one of the rooms alone a shorter way would lead home.
                    longer += any(len(samples.plain_way_to(web, last, first)) < len(wanted)
                                  for first, last in stands(web, story))
        self.assertGreater(shorter, 100)
        self.assertGreater(several, 50)
        self.assertGreater(longer, 5)

    def test_to_the_bounds(self):
        for seed, web in enumerate(web for web in UP_TO_SIX if samples.most_doors(web) in (2, 3)):
            for room in range(len(web)):
                story = story_of(web, room, chance_way(web, room, 12, seed))
                told = way_home(web, story)
                for first, last in stands(web, story):
                    self.assertEqual(samples.plain_gone(web, last, told)[0], first)
                self.assertLessEqual(len(told), 12)
                if len(told) < 8:
                    self.assertEqual(told, plain_way_home(web, story))
        web = samples.shuffled_web([6] * 6, 1)
        story = story_of(web, 0, chance_way(web, 0, 12, 1))
        self.assertEqual(way_home(web, story), plain_way_home(web, story))

    def test_rooms_alike(self):
        web = samples.sheeted_whole(MIXED, 2)
        story = story_of(web, 0, (3, 2, 1))
        self.assertEqual(len(stands(web, story)), 2)
        self.assertEqual(way_home(web, story), plain_way_home(web, story))


class TellingWayTest(unittest.TestCase):
    def test_one_room_or_none(self):
        for web in UP_TO_SIX:
            self.assertEqual(telling_way(web, []), ())
            for room in range(len(web)):
                self.assertEqual(telling_way(web, [room]), ())

    def test_told(self):
        self.assertEqual(telling_way(line(5), [0, 4]), (0,))
        self.assertEqual(telling_way(line(5), [0, 1]), ())
        self.assertEqual(telling_way(line(5), [0, 1, 4]), (0,))
        self.assertEqual(telling_way(line(5), [1, 2]), (0,))
        self.assertEqual(telling_way(line(5), [2, 3]), (1,))
        self.assertEqual(telling_way(line(5), [1, 2, 3]), (0, 0))
        self.assertEqual(telling_way(STAR, [0, 1, 2]), (0,))
        self.assertIs(type(telling_way(line(5), [2, 3])), tuple)

    def test_rooms_alike(self):
        self.assertEqual(telling_way(ring(5), [0, 1, 2, 4]), ())
        self.assertEqual(telling_way(ring(2), [1, 0]), ())
        for room in range(len(SHEETS)):
            self.assertEqual(telling_way(SHEETS, samples.plain_kind(SHEETS, room)), ())

    def test_none_where_there_is_none(self):
        for web, rooms in TO_AND_FRO:
            self.assertTrue(samples.plain_is_web(web))
            self.assertIsNone(telling_way(web, rooms))
            self.assertIsNone(telling_way(web, rooms[::-1]))
            self.assertIsNone(first_way(web, 6, lambda way: tells(web, rooms, way)))
        # Without the room that keeps them from other doors there is one.
        web = TO_AND_FRO[0][0]
        self.assertEqual(telling_way(web, [1, 2]), (1,))
        self.assertEqual(telling_way(TO_AND_FRO[1][0], [1, 3]), (1,))

    def test_some_of_the_rooms_alike(self):
        told = 0
        for web in [samples.sheeted_whole(samples.shuffled_web([3] * 4, 4), 2),
                    samples.sheeted_whole(samples.shuffled_web([3, 3, 3], 0), 2)]:
            self.assertGreater(len(web), len(samples.plain_kind(web, 0)))
            for rooms in itertools.combinations(range(len(web)), 4):
                wanted = first_way(web, 4, lambda way: tells(web, rooms, way))
                found = telling_way(web, list(rooms))
                if wanted is not None:
                    told += len(wanted) > 0
                    self.assertEqual(found, wanted)
                else:
                    self.assertTrue(found is None or len(found) > 4)
        self.assertGreater(told, 10)

    def test_all_short_ways(self):
        told = {}
        webs = UP_TO_SIX + [samples.shuffled_web([2] * 7 + [3], 4), samples.shuffled_web([2] * 8, 1), line(8)]
        for seed, web in enumerate(webs + [web for web, rooms in TO_AND_FRO]):
            chance = random.Random(seed)
            for many in range(2, min(len(web), 4) + 1):
                rooms = chance.sample(range(len(web)), many)
                found = telling_way(web, rooms)
                most = 4 if samples.most_doors(web) > 3 else 6
                wanted = first_way(web, most, lambda way: tells(web, rooms, way))
                told[wanted] = told.get(wanted, 0) + 1
                if wanted is not None:
                    self.assertEqual(found, wanted)
                else:
                    self.assertTrue(found is None or len(found) > most and tells(web, rooms, found))
        self.assertGreater(len(told), 6)

    def test_what_is_handed_in_stays(self):
        rooms = [3, 1, 2]
        self.assertEqual(telling_way(line(5), rooms), (0, 0))
        self.assertEqual(rooms, [3, 1, 2])
        self.assertEqual(telling_way(line(5), rooms), (0, 0))


if __name__ == "__main__":
    unittest.main()
