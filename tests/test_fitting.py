import random
import unittest

from stonewalker.errors import TooMany, WebError
from stonewalker.fitting import fewest, fitting
from stonewalker.numbering import told_from
from stonewalker.stories import fits, story_of
from stonewalker.webs import is_web
from tests import samples
from tests.samples import LONE, LOOP, MIXED, SELF_DOOR, TWICE, TWICE_ACROSS, chance_way, line, ring

# In all webs of at most 4 rooms with at most 6 doors: enough for stories of up to 3 steps.
LITTLE = [web for rooms in range(1, 5) for web in samples.small_webs(rooms, 6) if told_from(web, 0) == web]

# Stories, the most rooms, and how many webs fit then. No story of 8 steps that was tried has just 20, so those two have
# a step more.
BORDER = [
    ((4, ((0, 0, 4), (1, 1, 4), (3, 3, 4), (2, 2, 4), (0, 0, 4), (1, 1, 4), (3, 3, 4), (2, 2, 4))), 4, 19),
    ((3, ((0, 0, 3), (1, 1, 3), (2, 2, 3), (0, 0, 3), (1, 1, 3), (2, 2, 3), (2, 2, 3), (0, 0, 3), (1, 1, 3))), 4, 20),
    ((4, ((0, 0, 4), (2, 2, 4), (0, 0, 4), (3, 3, 4), (1, 2, 4), (0, 0, 4), (3, 3, 4), (1, 1, 4), (3, 3, 4))), 3, 20),
    ((3, ((0, 0, 3), (1, 1, 3), (0, 0, 3), (2, 2, 3), (0, 0, 3), (1, 1, 3), (0, 0, 3), (2, 2, 3))), 4, 21),
    ((4, ((0, 0, 4), (3, 2, 4), (1, 1, 4), (2, 3, 4), (0, 0, 4), (3, 2, 4), (1, 1, 4), (2, 3, 4))), 4, 37),
]


def rising(webs):
    return sorted(webs, key=lambda web: (len(web), web))


def used(web, story):
    """The ends gone through or come in by."""
    room, told = 0, set()
    for door, come, _ in story[1]:
        told.add((room, door))
        room = web[room][door][0]
        told.add((room, come))
    return told


def all_ends(web):
    return {(room, door) for room, ends in enumerate(web) for door in range(len(ends))}


def by_all_webs(story, most):
    """Out of all little webs, by the words of the point."""
    return rising(web for web in LITTLE if len(web) <= most and fits(web, 0, story)
                  and used(web, story) == all_ends(web))


def room_rows(many, most):
    """All rows of numbers in which each new number is the next one."""
    if many == 0:
        return [(0,)]
    return [row + (room,) for row in room_rows(many - 1, most) for room in range(min(max(row) + 2, most))]


def web_by(story, row):
    """The web in which the story's steps lead to the rooms of the row; None where there is none."""
    counts = {0: story[0]}
    leads = {}
    for (door, come, doors), room, there in zip(story[1], row, row[1:]):
        if counts.setdefault(there, doors) != doors:
            return None
        if leads.setdefault((room, door), (there, come)) != (there, come):
            return None
        if leads.setdefault((there, come), (room, door)) != (room, door):
            return None
    if set(leads) != {(room, door) for room, doors in counts.items() for door in range(doors)}:
        return None
    return tuple(tuple(leads[room, door] for door in range(counts[room])) for room in sorted(counts))


def by_all_rows(story, most):
    """By trying all rows of rooms that the steps may lead to."""
    webs = [web_by(story, row) for row in room_rows(len(story[1]), most)]
    return rising(told_from(web, 0) for web in webs if web is not None)


def chance_story(chance, many):
    """A story that may fit nowhere."""
    counts = [chance.randrange(1, 4) for _ in range(chance.randrange(1, 3))]
    first = here = chance.choice(counts)
    steps = []
    for _ in range(many):
        there = chance.choice(counts)
        steps.append((chance.randrange(here), chance.randrange(there), there))
        here = there
    return (first, tuple(steps))


def chance_stories(many):
    chance = random.Random(many)
    told = [chance_story(chance, many) for _ in range(60)]
    webs = [web for web in LITTLE if len(web[0])]
    for seed in range(60):
        web = chance.choice(webs)
        told.append(story_of(web, 0, chance_way(web, 0, many, seed)))
    return told


class FittingTest(unittest.TestCase):
    def asked(self, story, most, wanted):
        if len(wanted) > 20:
            with self.assertRaises(TooMany) as found:
                fitting(story, most)
            self.assertEqual(type(found.exception).__bases__, (WebError,))
            return
        told = fitting(story, most)
        self.assertIs(type(told), list)
        self.assertEqual(told, wanted)
        for web in told:
            self.assertIs(is_web(web), True)
            self.assertLessEqual(len(web), most)
            self.assertEqual(told_from(web, 0), web)
            self.assertIs(fits(web, 0, story), True)
            self.assertEqual(used(web, story), all_ends(web))
        self.assertEqual(told, rising(set(told)))

    def test_no_steps(self):
        for most in range(1, 5):
            self.assertEqual(fitting((0, ()), most), [LONE])
            for doors in range(1, 7):
                self.assertEqual(fitting((doors, ()), most), [])

    def test_one_step(self):
        for most in range(2, 5):
            self.assertEqual(fitting((1, ((0, 0, 1),)), most), [SELF_DOOR, line(2)])
            self.assertEqual(fitting((2, ((0, 1, 2),)), most), [LOOP])
            self.assertEqual(fitting((2, ((1, 0, 2),)), most), [LOOP])
        self.assertEqual(fitting((1, ((0, 0, 1),)), 1), [SELF_DOOR])
        self.assertEqual(fitting((1, ((0, 0, 2),)), 4), [])

    def test_several_steps(self):
        story = (1, ((0, 0, 2), (1, 0, 1)))
        self.assertEqual(fitting(story, 1), [])
        self.assertEqual(fitting(story, 2), [])
        self.assertEqual(fitting(story, 3), [line(3)])
        # Gone to and fro, and then through a door that leads to itself.
        self.assertEqual(fitting((1, ((0, 0, 2), (0, 0, 1), (0, 0, 2), (1, 1, 2))), 4),
                         [(((1, 0),), ((0, 0), (1, 1)))])
        self.assertEqual(fitting(story_of(TWICE, 0, (0, 1)), 4), [(((0, 0), (0, 1)),), TWICE])
        self.assertEqual(fitting(story_of(TWICE_ACROSS, 0, (0, 0)), 4), [LOOP, TWICE_ACROSS])
        self.assertEqual(fitting(story_of(LOOP, 0, (0, 0)), 1), [LOOP])

    def test_rings(self):
        # Two steps round: a ring of one or two, and nothing of three, as one tie isn't gone through.
        for steps in range(1, 5):
            story = story_of(LOOP, 0, (0,) * steps)
            whole = [web for web in fitting(story, 4) if web == told_from(ring(len(web)), 0)]
            self.assertEqual(whole, [told_from(ring(many), 0) for many in range(1, steps + 1)])

    def test_short_stories_among_all_webs(self):
        told = {}
        for many in range(4):
            for story in chance_stories(many):
                for most in range(1, 5):
                    wanted = by_all_webs(story, most)
                    told[len(wanted)] = told.get(len(wanted), 0) + 1
                    self.asked(story, most, wanted)
        self.assertGreater(told[0], 50)
        self.assertGreater(sum(told.values()) - told[0], 100)

    def test_stories_to_the_bounds_by_all_rows(self):
        many_webs = 0
        for many in range(4, 9):
            for story in chance_stories(many)[::3 if many < 7 else 6]:
                for most in range(1, 5):
                    wanted = by_all_rows(story, most)
                    many_webs += len(wanted)
                    self.asked(story, most, wanted)
        self.assertGreater(many_webs, 200)

    def test_told_stories_find_their_web(self):
        found = 0
        for seed, web in enumerate(LITTLE):
            way = chance_way(web, 0, 8, seed)
            story = story_of(web, 0, way)
            if len(web) > 4 or used(web, story) != all_ends(web):
                continue
            for most in range(1, 5):
                try:
                    self.assertEqual(web in fitting(story, most), most >= len(web))
                    found += 1
                except TooMany:
                    pass
        self.assertGreater(found, 300)

    def test_doors_of_one_room(self):
        self.assertIn(MIXED, fitting(story_of(MIXED, 0, (0, 1, 2, 3, 0, 4, 2, 1)), 3))
        story = story_of((((0, 0), (0, 2), (0, 1)),), 0, (0, 1, 2, 0))
        self.assertEqual(fitting(story, 1), [(((0, 0), (0, 2), (0, 1)),)])
        self.assertEqual(fitting(story, 4), by_all_rows(story, 4))

    def test_steps_whose_doors_a_room_has_not(self):
        for story in [(0, ((0, 0, 0),)), (0, ((0, 0, 1),)), (1, ((1, 0, 1),)), (1, ((0, 1, 1),)), (1, ((0, 0, 0),)),
                      (1, ((0, 0, 1), (1, 0, 1))), (1, ((0, 0, 1), (0, 1, 1))), (2, ((0, 1, 2), (2, 0, 2))),
                      (2, ((0, 1, 2), (1, 2, 2))), (1, ((-1, 0, 1),)), (1, ((0, -1, 1),))]:
            for most in range(1, 5):
                self.assertEqual(fitting(story, most), [], story)
            self.assertIsNone(fewest(story), story)

    def test_doors_that_are_gone_through_unlike(self):
        # Back by the same door one comes to where one was.
        self.assertEqual(fitting((1, ((0, 0, 2), (0, 0, 2), (1, 1, 2))), 4), [])
        self.assertEqual(fitting((1, ((0, 0, 2), (0, 1, 1))), 4), [])
        self.assertEqual(fitting((1, ((0, 0, 2), (0, 0, 1))), 4), [])

    def test_twenty_are_told_and_more_refused(self):
        for story, most, many in BORDER:
            wanted = by_all_rows(story, most)
            self.assertEqual(len(wanted), many)
            self.asked(story, most, wanted)
            # With fewer rooms fewer webs fit.
            self.asked(story, 2, by_all_rows(story, 2))

    def test_asked_once_more(self):
        story = story_of(LOOP, 0, (0, 0, 0))
        one, other = fitting(story, 3), fitting(story, 3)
        self.assertEqual(one, other)
        one.clear()
        self.assertEqual(fitting(story, 3), other)
        self.assertEqual(story, (2, ((0, 1, 2),) * 3))


class FewestTest(unittest.TestCase):
    def test_told(self):
        self.assertEqual(fewest((0, ())), 1)
        self.assertIsNone(fewest((1, ())))
        self.assertEqual(fewest((1, ((0, 0, 1),))), 1)
        self.assertEqual(fewest((1, ((0, 0, 2), (1, 0, 1)))), 3)
        self.assertEqual(fewest(story_of(line(4), 0, (0, 1, 1))), 4)
        self.assertIsNone(fewest(story_of(line(5), 0, (0, 1, 1))))

    def test_none_of_at_most_four_rooms(self):
        # Rooms of 1, 2, 3, 4 and 5 doors are five.
        story = (1, ((0, 0, 2), (1, 0, 3), (1, 1, 3), (2, 0, 4), (1, 2, 4), (3, 0, 5), (1, 2, 5), (3, 4, 5)))
        self.assertEqual([len(web) for web in by_all_rows(story, 5)], [5])
        self.assertIsNone(fewest(story))
        star = (2, ((0, 0, 1), (0, 0, 2), (1, 1, 3), (0, 0, 3), (2, 0, 2), (1, 1, 2)))
        self.assertEqual(fewest(star), min((len(web) for web in by_all_rows(star, 4)), default=None))
        long = story_of(line(5), 0, (0, 1, 1, 1))
        self.assertEqual([len(web) for web in by_all_rows(long, 5)], [5])
        self.assertIsNone(fewest(long))

    def test_least_of_all(self):
        told = {}
        for many in range(9):
            for story in chance_stories(many)[::2 if many < 7 else 8]:
                wanted = min([len(web) for web in by_all_rows(story, 4)], default=None)
                told[wanted] = told.get(wanted, 0) + 1
                self.assertEqual(fewest(story), wanted)
        self.assertEqual(set(told), {None, 1, 2, 3})

    def test_webs_that_the_story_tells_alone(self):
        told = {}
        for seed, web in enumerate(LITTLE):
            story = story_of(web, 0, chance_way(web, 0, 6, seed))
            wanted = min([len(web) for web in by_all_rows(story, 4)], default=None)
            told[wanted] = told.get(wanted, 0) + 1
            self.assertEqual(fewest(story), wanted)
        self.assertEqual(set(told), {None, 1, 2, 3, 4})

    def test_where_too_many_fit(self):
        for story, most, many in BORDER:
            self.assertEqual(fewest(story), min(len(web) for web in by_all_rows(story, 4)))


if __name__ == "__main__":
    unittest.main()
