import unittest

from stonewalker.numbering import renumbered
from stonewalker.stories import fits, stands, story_of
from tests import samples
from tests.samples import LONE, LOOP, MIXED, SELF_DOOR, TWICE, TWICE_ACROSS, chance_way, line, ring


def plain_story(web, room, way):
    """The story, step by step off the web; None where the way isn't possible."""
    doors, steps = len(web[room]), []
    for door in way:
        if door not in range(len(web[room])):
            return None
        room, come = web[room][door]
        steps.append((door, come, len(web[room])))
    return (doors, tuple(steps))


def way_in(story):
    return tuple(step[0] for step in story[1])


def plain_stands(web, story):
    way = way_in(story)
    return [(room, samples.plain_gone(web, room, way)[0]) for room in range(len(web))
            if plain_story(web, room, way) == story]


def others(story):
    """The story with another number at each of its places."""
    doors, steps = story
    for change in (-1, 1, 2):
        yield (doors + change, steps)
        for place, step in enumerate(steps):
            for part in range(3):
                other = step[:part] + (step[part] + change,) + step[part + 1:]
                yield (doors, steps[:place] + (other,) + steps[place + 1:])


class StoryOfTest(unittest.TestCase):
    def test_told(self):
        self.assertEqual(story_of(LONE, 0, ()), (0, ()))
        self.assertEqual(story_of(line(3), 1, ()), (2, ()))
        self.assertEqual(story_of(line(3), 0, (0, 1)), (1, ((0, 0, 2), (1, 0, 1))))
        self.assertEqual(story_of(line(3), 0, [0, 1]), (1, ((0, 0, 2), (1, 0, 1))))
        self.assertEqual(story_of(SELF_DOOR, 0, (0,)), (1, ((0, 0, 1),)))
        self.assertEqual(story_of(LOOP, 0, (0, 1)), (2, ((0, 1, 2), (1, 0, 2))))
        self.assertEqual(story_of(MIXED, 0, (4, 2, 1)), (5, ((4, 0, 3), (2, 0, 2), (1, 1, 2))))

    def test_all_short_ways(self):
        for web in samples.NAMED + samples.SMALL[::8]:
            for room in range(len(web)):
                for way in samples.ways(min(samples.most_doors(web), 4), 3):
                    wanted = plain_story(web, room, way)
                    if wanted is not None:
                        self.assertEqual(story_of(web, room, way), wanted)
                        self.assertEqual(story_of(web, room, list(way)), wanted)

    def test_to_the_bounds(self):
        for web in samples.GREAT:
            for room in range(0, 24, 5):
                way = chance_way(web, room, 60, room)
                self.assertEqual(story_of(web, room, way), plain_story(web, room, way))
                self.assertEqual(len(story_of(web, room, way)[1]), 60)

    def test_the_way_stays(self):
        way = [0, 1, 0]
        told = story_of(line(3), 0, way)
        self.assertEqual(way, [0, 1, 0])
        way.append(0)
        self.assertEqual(told, story_of(line(3), 0, (0, 1, 0)))


class FitsTest(unittest.TestCase):
    def test_told(self):
        self.assertIs(fits(LONE, 0, (0, ())), True)
        self.assertIs(fits(LONE, 0, (1, ())), False)
        self.assertIs(fits(line(3), 0, (1, ((0, 0, 2), (1, 0, 1)))), True)
        self.assertIs(fits(line(3), 2, (1, ((0, 1, 2), (0, 0, 1)))), True)
        self.assertIs(fits(line(3), 2, (1, ((0, 0, 2), (1, 0, 1)))), False)
        self.assertIs(fits(TWICE, 0, (2, ((0, 0, 2),))), True)
        self.assertIs(fits(TWICE_ACROSS, 0, (2, ((0, 0, 2),))), False)

    def test_doors_that_rooms_have_not(self):
        self.assertIs(fits(LONE, 0, (0, ((0, 0, 0),))), False)
        self.assertIs(fits(SELF_DOOR, 0, (1, ((1, 0, 1),))), False)
        self.assertIs(fits(SELF_DOOR, 0, (1, ((0, 0, 1), (1, 1, 1)))), False)
        self.assertIs(fits(line(3), 0, (1, ((0, 0, 2), (2, 0, 1)))), False)
        self.assertIs(fits(line(3), 0, (1, ((0, 0, 2), (1, 0, 1), (1, 0, 1)))), False)
        self.assertIs(fits(line(3), 0, (1, ((-1, 0, 2),))), False)

    def test_another_number_at_each_place(self):
        asked = 0
        for seed, web in enumerate(samples.NAMED + samples.GREAT):
            for room in range(len(web)):
                story = story_of(web, room, chance_way(web, room, 4, seed))
                self.assertIs(fits(web, room, story), True)
                for other in others(story):
                    wanted = plain_story(web, room, way_in(other)) == other
                    asked += 1
                    self.assertIs(fits(web, room, other), wanted)
        self.assertGreater(asked, 3000)

    def test_as_another_web_sees_it(self):
        told = {True: 0, False: 0}
        for one, other in samples.COUPLES[::3]:
            for way in samples.ways(min(samples.most_doors(one), 3), 3):
                story = plain_story(one, 0, way)
                if story is None:
                    continue
                for room in range(len(other)):
                    wanted = plain_story(other, room, way) == story
                    told[wanted] += 1
                    self.assertIs(fits(other, room, story), wanted)
        self.assertGreater(min(told.values()), 200)

    def test_alike_rooms(self):
        story = story_of(LOOP, 0, (0, 0, 1, 0, 1, 1))
        for many in range(1, 10):
            self.assertIs(fits(ring(many), many - 1, story), True)


class StandsTest(unittest.TestCase):
    def test_told(self):
        self.assertEqual(stands(LONE, (0, ())), [(0, 0)])
        self.assertEqual(stands(LONE, (1, ())), [])
        self.assertEqual(stands(ring(4), (2, ())), [(0, 0), (1, 1), (2, 2), (3, 3)])
        self.assertEqual(stands(ring(4), (2, ((0, 1, 2),))), [(0, 1), (1, 2), (2, 3), (3, 0)])
        self.assertEqual(stands(ring(4), (2, ((1, 0, 2), (1, 0, 2)))), [(0, 2), (1, 3), (2, 0), (3, 1)])
        self.assertEqual(stands(ring(4), (2, ((0, 0, 2),))), [])
        self.assertEqual(stands(ring(4), (2, ((2, 0, 2),))), [])
        self.assertEqual(stands(line(4), (2, ((1, 0, 2),))), [(1, 2)])
        self.assertEqual(stands(line(4), (1, ((0, 0, 2), (1, 0, 2)))), [(0, 2)])
        self.assertEqual(stands(line(2), (1, ((0, 0, 1),))), [(0, 1), (1, 0)])

    def test_of_all_rooms(self):
        for seed, web in enumerate(samples.NAMED + samples.GREAT + samples.SMALL[::6]):
            for room in range(0, len(web), 1 + len(web) // 6):
                for many in (0, 1, 2, 5, 12):
                    way = chance_way(web, room, many, seed + many)
                    story = story_of(web, room, way)
                    told = stands(web, story)
                    self.assertIs(type(told), list)
                    self.assertEqual(told, plain_stands(web, story))
                    self.assertIn((room, samples.plain_gone(web, room, way)[0]), told)
                    self.assertTrue(all(type(pair) is tuple and len(pair) == 2 for pair in told))

    def test_rooms_alike_stand_together(self):
        web = samples.GREAT_SHEETS
        story = story_of(web, 5, chance_way(web, 5, 60, 1))
        self.assertEqual([pair[0] for pair in stands(web, story)], samples.plain_kind(web, 5))
        numbers = tuple(room * 5 % 24 for room in range(24))
        told = stands(renumbered(web, numbers), story)
        self.assertEqual(told, sorted((numbers[one], numbers[other]) for one, other in stands(web, story)))

    def test_the_told_list_is_the_askers_own(self):
        story = story_of(ring(3), 0, (0,))
        one, other = stands(ring(3), story), stands(ring(3), story)
        one.clear()
        self.assertEqual(other, [(0, 1), (1, 2), (2, 0)])
        self.assertEqual(stands(ring(3), story), other)


if __name__ == "__main__":
    unittest.main()
