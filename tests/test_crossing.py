import itertools
import unittest

from stonewalker.crossing import crossed, put_right
from stonewalker.errors import NoWeb, WebError
from stonewalker.stories import fits, story_of
from stonewalker.webs import is_web, ties
from tests import samples
from tests.samples import LONE, LOOP, MIXED, SELF_DOOR, TWICE, TWICE_ACROSS, chance_way, line, ring

TWO_SELF = (((0, 0), (0, 1)),)
# A row of three rooms, with a door that leads to itself at each end of it.
SELF_ENDS = (((0, 0), (1, 0)), ((0, 1), (2, 0)), ((1, 1), (2, 1)))
NEAR = [LONE, SELF_DOOR, LOOP, TWO_SELF, TWICE, TWICE_ACROSS, MIXED, SELF_ENDS, line(4), ring(4),
        samples.wheel(5, (1, 2)), samples.shuffled_web([3, 2, 4, 1], 2), samples.shuffled_web([4, 4, 4], 7)]


def plain_ties(web):
    ends = [(room, door) for room, row in enumerate(web) for door in range(len(row))]
    return [(end, web[end[0]][end[1]]) for end in ends if end <= web[end[0]][end[1]]]


def plain_crossed(web, one, other, about):
    """The web tied anew from all its ties; None where there is none."""
    known = plain_ties(web)
    (a, b), (c, d) = known[one], known[other]
    if (a == b) != (c == d):
        return None
    if about == 1:
        c, d = d, c
    rest = [tie for place, tie in enumerate(known) if place not in (one, other)]
    told = samples.joined([len(room) for room in web], rest + [(a, d), (c, b)])
    return told if samples.plain_is_web(told) else None


def plain_put_right(web, room, story):
    many = len(plain_ties(web))
    told = {web}
    for one, other in itertools.combinations(range(many), 2):
        told |= {plain_crossed(web, one, other, 0), plain_crossed(web, one, other, 1)}
    return sorted(other for other in told - {None} if fits(other, room, story))


class CrossedTest(unittest.TestCase):
    def refused(self, web, one, other, about):
        with self.assertRaises(NoWeb) as found:
            crossed(web, one, other, about)
        self.assertEqual(type(found.exception).__bases__, (WebError,))

    def test_both_ways_about(self):
        # The ties are 0.0-1.1, 0.1-3.0, 1.0-2.1 and 2.0-3.1.
        web = ring(4)
        self.assertEqual(crossed(web, 0, 1, 0),
                         (((3, 0), (1, 1)), ((2, 1), (0, 1)), ((3, 1), (1, 0)), ((0, 0), (2, 0))))
        self.assertEqual(crossed(web, 1, 2, 0),
                         (((1, 1), (2, 1)), ((3, 0), (0, 0)), ((3, 1), (0, 1)), ((1, 0), (2, 0))))
        self.assertEqual(crossed(web, 0, 3, 1),
                         (((2, 0), (3, 0)), ((2, 1), (3, 1)), ((0, 0), (1, 0)), ((0, 1), (1, 1))))
        self.assertEqual(crossed(web, 0, 2, 1),
                         (((1, 0), (3, 0)), ((0, 0), (2, 1)), ((3, 1), (1, 1)), ((0, 1), (2, 0))))
        self.assertEqual(crossed(TWICE, 0, 1, 0), TWICE_ACROSS)
        self.assertEqual(crossed(line(3), 0, 1, 1), (((1, 1),), ((2, 0), (0, 0)), ((1, 0),)))

    def test_ties_in_either_order(self):
        for web in NEAR:
            for one, other in itertools.permutations(range(len(ties(web))), 2):
                for about in (0, 1):
                    wanted = plain_crossed(web, one, other, about)
                    self.assertEqual(wanted, plain_crossed(web, other, one, about))
                    if wanted is None:
                        self.refused(web, one, other, about)
                        self.refused(web, other, one, about)
                    else:
                        self.assertEqual(crossed(web, one, other, about), wanted)
                        self.assertEqual(crossed(web, other, one, about), wanted)
                        self.assertIs(is_web(wanted), True)

    def test_ties_of_two_doors_of_one_room(self):
        web = (((0, 1), (0, 0), (0, 3), (0, 2)),)
        self.assertEqual(crossed(web, 0, 1, 0), (((0, 3), (0, 2), (0, 1), (0, 0)),))
        self.assertEqual(crossed(web, 0, 1, 1), (((0, 2), (0, 3), (0, 0), (0, 1)),))
        # Both of the doors of room 0 that led to one another lead to room 1 then.
        web = (((0, 1), (0, 0), (1, 0)), ((0, 2),))
        self.assertEqual(crossed(web, 0, 1, 0), (((1, 0), (0, 2), (0, 1)), ((0, 0),)))
        self.assertEqual(crossed(web, 0, 1, 1), (((0, 2), (1, 0), (0, 0)), ((0, 1),)))

    def test_two_ties_of_doors_with_themselves(self):
        for about in (0, 1):
            self.assertEqual(crossed(TWO_SELF, 0, 1, about), LOOP)
            self.assertEqual(crossed(TWO_SELF, 1, 0, about), LOOP)
            self.assertEqual(ties(crossed(SELF_ENDS, 0, 3, about)),
                             [((0, 0), (2, 1)), ((0, 1), (1, 0)), ((1, 1), (2, 0))])
        self.assertEqual(len(ties(LOOP)), 1)

    def test_just_one_tie_of_a_door_with_itself(self):
        for about in (0, 1):
            for one, other in [(0, 1), (1, 0), (0, 2), (3, 1), (1, 3), (2, 3)]:
                self.refused(SELF_ENDS, one, other, about)
            self.refused(MIXED, 0, 1, about)
            self.refused((((0, 0), (0, 2), (0, 1)),), 0, 1, about)

    def test_rooms_that_are_not_come_to(self):
        # Rooms 0 and 3, and 1 and 2, are left by themselves.
        self.refused(ring(4), 0, 3, 0)
        self.refused(ring(4), 0, 1, 1)
        self.refused(line(3), 0, 1, 0)
        self.refused(line(4), 0, 2, 0)
        self.refused(TWICE, 0, 1, 1)
        self.assertIs(is_web(crossed(line(4), 0, 2, 1)), True)

    def test_what_is_handed_in_stays(self):
        web = ring(5)
        one = crossed(web, 0, 2, 1)
        self.assertEqual(web, ring(5))
        self.assertEqual(crossed(web, 0, 2, 1), one)
        # Crossed back, by what was told.
        back = [crossed(one, first, second, about) for first, second in itertools.combinations(range(5), 2)
                for about in (0, 1) if plain_crossed(one, first, second, about)]
        self.assertIn(web, back)

    def test_to_the_bounds(self):
        for web in samples.GREAT:
            many = len(ties(web))
            for one in range(0, many, 7):
                for other in range(2, many, 11):
                    for about in (0, 1):
                        wanted = plain_crossed(web, one, other, about) if one != other else None
                        if wanted is not None:
                            self.assertEqual(crossed(web, one, other, about), wanted)
                        elif one != other:
                            self.refused(web, one, other, about)


class PutRightTest(unittest.TestCase):
    def asked(self, web, room, story):
        told = put_right(web, room, story)
        self.assertIs(type(told), list)
        self.assertEqual(told, plain_put_right(web, room, story))
        for other in told:
            self.assertIs(is_web(other), True)
            self.assertEqual([len(ends) for ends in other], [len(ends) for ends in web])
        return told

    def test_webs_without_two_ties(self):
        self.assertEqual(put_right(LONE, 0, (0, ())), [LONE])
        self.assertEqual(put_right(LONE, 0, (1, ())), [])
        self.assertEqual(put_right(SELF_DOOR, 0, (1, ((0, 0, 1),))), [SELF_DOOR])
        self.assertEqual(put_right(LOOP, 0, (2, ((0, 1, 2),))), [LOOP])
        self.assertEqual(put_right(LOOP, 0, (2, ((0, 0, 2),))), [])
        self.assertEqual(put_right(TWO_SELF, 0, (2, ((0, 1, 2),))), [LOOP])
        self.assertEqual(put_right(TWO_SELF, 0, (2, ())), [TWO_SELF, LOOP])

    def test_told(self):
        self.assertEqual(put_right(TWICE, 0, (2, ((0, 0, 2),))), [TWICE])
        self.assertEqual(put_right(TWICE, 0, (2, ((0, 1, 2),))), [TWICE_ACROSS])
        self.assertEqual(put_right(TWICE, 0, (2, ())), [TWICE, TWICE_ACROSS])

    def test_stories_that_fit(self):
        for seed, web in enumerate(NEAR):
            for room in range(len(web)):
                for many in (0, 1, 3, 8):
                    told = self.asked(web, room, story_of(web, room, chance_way(web, room, many, seed)))
                    self.assertIn(web, told)

    def test_stories_of_crossed_webs(self):
        asked = 0
        for seed, web in enumerate(NEAR):
            for one, other in list(itertools.combinations(range(len(ties(web))), 2))[::3]:
                wrong = plain_crossed(web, one, other, seed % 2)
                if wrong is None:
                    continue
                room = seed % len(web)
                story = story_of(wrong, room, chance_way(wrong, room, 12, seed))
                self.assertIn(wrong, self.asked(web, room, story))
                asked += web not in put_right(web, room, story)
        self.assertGreater(asked, 5)

    def test_none_fits(self):
        for web in NEAR:
            self.assertEqual(self.asked(web, 0, (len(web[0]) + 1, ())), [])
            self.assertEqual(self.asked(web, 0, (len(web[0]), ((len(web[0]), 0, 1),))), [])
        # Two crossings away.
        self.assertEqual(self.asked(line(4), 0, (1, ((0, 0, 1),))), [])

    def test_from_that_room(self):
        web = SELF_ENDS
        story = story_of(web, 2, (1, 0))
        self.assertIn(web, self.asked(web, 2, story))
        self.assertNotIn(web, self.asked(web, 0, story))
        self.assertNotIn(web, self.asked(web, 1, story))

    def test_to_the_bounds(self):
        web = samples.shuffled_web([2] * 20 + [3, 4, 5, 6], 4)
        story = story_of(web, 5, chance_way(web, 5, 60, 1))
        told = put_right(web, 5, story)
        self.assertEqual(told, plain_put_right(web, 5, story))
        self.assertIn(web, told)

    def test_the_told_list_is_the_askers_own(self):
        one, other = put_right(TWICE, 0, (2, ())), put_right(TWICE, 0, (2, ()))
        one.clear()
        self.assertEqual(other, [TWICE, TWICE_ACROSS])
        self.assertEqual(put_right(TWICE, 0, (2, ())), other)


if __name__ == "__main__":
    unittest.main()
