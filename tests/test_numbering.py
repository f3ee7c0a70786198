import itertools
import random
import unittest

from stonewalker.numbering import renumbered, same_web, told_from
from stonewalker.webs import is_web
from tests import samples
from tests.samples import LONE, LOOP, MIXED, SELF_DOOR, TWICE, TWICE_ACROSS, line, ring


def shuffled(many, seed):
    numbers = list(range(many))
    random.Random(seed).shuffle(numbers)
    return tuple(numbers)


class RenumberedTest(unittest.TestCase):
    def test_told_webs(self):
        self.assertEqual(renumbered(line(3), (1, 0, 2)), (((1, 0), (2, 0)), ((0, 0),), ((0, 1),)))
        self.assertEqual(renumbered(line(3), (1, 2, 0)), (((2, 1),), ((2, 0),), ((1, 0), (0, 0))))
        for web in [LONE, SELF_DOOR, LOOP]:
            self.assertEqual(renumbered(web, (0,)), web)

    def test_room_r_has_the_number_told(self):
        for web in samples.NAMED + samples.GREAT:
            for seed in range(5):
                numbers = shuffled(len(web), seed)
                told = renumbered(web, numbers)
                self.assertTrue(is_web(told))
                self.assertIs(type(told), tuple)
                for room, ends in enumerate(web):
                    self.assertEqual(told[numbers[room]], tuple((numbers[s], j) for s, j in ends))

    def test_numbers_that_stay(self):
        for web in samples.NAMED + samples.GREAT:
            self.assertEqual(renumbered(web, tuple(range(len(web)))), web)


class ToldFromTest(unittest.TestCase):
    def test_told_webs(self):
        self.assertEqual(told_from(line(3), 0), line(3))
        self.assertEqual(told_from(line(3), 1), (((1, 0), (2, 0)), ((0, 0),), ((0, 1),)))
        self.assertEqual(told_from(line(3), 2), (((1, 1),), ((2, 0), (0, 0)), ((1, 0),)))
        self.assertEqual(told_from(ring(4), 0), (((1, 1), (2, 0)), ((3, 1), (0, 0)), ((0, 1), (3, 0)), ((2, 1), (1, 0))))
        for web in [LONE, SELF_DOOR, LOOP, TWICE, TWICE_ACROSS]:
            self.assertEqual(told_from(web, 0), web)

    def test_numbers_as_rooms_are_first_come_to(self):
        for web in samples.NAMED + samples.SMALL:
            for room in range(len(web)):
                if len(web) > 6 and room > 2:
                    continue
                least = {other: self.least_way(web, room, other) for other in range(len(web))}
                order = sorted(least, key=lambda other: (len(least[other]), least[other]))
                numbers = tuple(order.index(other) for other in range(len(web)))
                self.assertEqual(told_from(web, room), renumbered(web, numbers))

    def least_way(self, web, room, other):
        found = {room: ()}
        while other not in found:
            longer = {}
            for here in sorted(found, key=lambda place: found[place]):
                for door, end in enumerate(web[here]):
                    if end[0] not in found:
                        way = found[here] + (door,)
                        longer[end[0]] = min(longer.get(end[0], way), way)
            found.update(longer)
        return found[other]

    def test_from_each_room(self):
        for web in samples.NAMED + samples.GREAT:
            for room in range(len(web)):
                told = told_from(web, room)
                self.assertTrue(is_web(told))
                self.assertEqual(len(told[0]), len(web[room]))
                self.assertEqual(told_from(told, 0), told)
                come_to = [0]
                for here in range(len(told)):
                    come_to += [end[0] for end in told[here] if end[0] not in come_to]
                    come_to = sorted(set(come_to), key=come_to.index)
                self.assertEqual(come_to, list(range(len(web))))

    def test_numbers_do_not_matter(self):
        for web in samples.NAMED + samples.GREAT:
            for seed in range(3):
                numbers = shuffled(len(web), seed)
                for room in range(len(web)):
                    self.assertEqual(told_from(renumbered(web, numbers), numbers[room]), told_from(web, room))


class SameWebTest(unittest.TestCase):
    def test_of_a_web_and_itself(self):
        for web in samples.NAMED + samples.GREAT:
            for room in range(len(web)):
                self.assertEqual(same_web(web, room, web, room), tuple(range(len(web))))

    def test_of_a_web_and_the_same_renumbered(self):
        for web in samples.NAMED + samples.GREAT:
            for seed in range(4):
                numbers = shuffled(len(web), seed)
                for room in range(len(web)):
                    told = same_web(web, room, renumbered(web, numbers), numbers[room])
                    self.assertEqual(told, numbers)
                    self.assertIs(type(told), tuple)

    def test_of_a_web_and_itself_from_two_rooms(self):
        self.assertEqual(same_web(ring(5), 0, ring(5), 2), (2, 3, 4, 0, 1))
        self.assertEqual(same_web(ring(5), 3, ring(5), 0), (2, 3, 4, 0, 1))
        self.assertEqual(same_web(TWICE, 0, TWICE, 1), (1, 0))
        self.assertIsNone(same_web(line(3), 0, line(3), 2))
        self.assertIsNone(same_web(line(4), 1, line(4), 2))

    def test_of_webs_that_are_not_the_same(self):
        self.assertIsNone(same_web(TWICE, 0, TWICE_ACROSS, 0))
        self.assertIsNone(same_web(SELF_DOOR, 0, LONE, 0))
        self.assertIsNone(same_web(LOOP, 0, (((0, 0), (0, 1)),), 0))
        self.assertIsNone(same_web(MIXED, 0, MIXED, 1))

    def test_of_unlike_many_rooms(self):
        for one, other in itertools.permutations([1, 2, 3, 6, 12], 2):
            self.assertIsNone(same_web(ring(one), 0, ring(other), 0))
        self.assertIsNone(same_web(line(5), 0, line(6), 0))
        self.assertIsNone(same_web(LOOP, 0, ring(2), 0))

    def test_of_all_small_webs(self):
        webs = samples.small_webs(1, 3) + samples.small_webs(2, 3) + samples.small_webs(3, 4)[::4]
        same = 0
        for one, other in itertools.product(webs, repeat=2):
            for a, b in itertools.product(range(len(one)), range(len(other))):
                wanted = samples.plain_same(one, a, other, b)
                self.assertLessEqual(len(wanted), 1)
                self.assertEqual(same_web(one, a, other, b), wanted[0] if wanted else None)
                self.assertEqual(told_from(one, a) == told_from(other, b), bool(wanted))
                same += len(wanted)
        self.assertGreater(same, len(webs))

    def test_the_same_question_is_told_the_same(self):
        for web in samples.GREAT:
            self.assertEqual(same_web(web, 0, web, 5), same_web(web, 0, web, 5))
            self.assertEqual(told_from(web, 7), told_from(web, 7))


if __name__ == "__main__":
    unittest.main()
