import math
import unittest

from stonewalker.evenwebs import even_webs, sees_all
from stonewalker.numbering import told_from
from stonewalker.webs import is_web
from tests import samples
from tests.samples import LONE, LOOP, MIXED, SELF_DOOR, TWICE, TWICE_ACROSS, line, ring

SIZES = [(rooms, doors) for rooms in range(1, 9) for doors in range(9) if rooms * doors <= 8]


def involutions(many):
    """In how many ways so many doors may be tied, two and two or with themselves."""
    return sum(math.factorial(many) // (math.factorial(many - 2 * twos) * math.factorial(twos) * 2 ** twos)
               for twos in range(many // 2 + 1))


def connected(rooms, doors):
    """How many of them make a web: all but those where room 0 is in a lesser part."""
    return involutions(rooms * doors) - sum(
        math.comb(rooms - 1, part - 1) * connected(part, doors) * involutions((rooms - part) * doors)
        for part in range(1, rooms))


def plain_told(web):
    """The web with its rooms numbered as they are come to from 0."""
    order = [0]
    for room in order:
        order += [end[0] for place, end in enumerate(web[room])
                  if end[0] not in order and end[0] not in [other[0] for other in web[room][:place]]]
    return tuple(tuple((order.index(s), j) for s, j in web[room]) for room in order)


def plain_even(rooms, doors):
    """All webs, tied in any way, that are so numbered."""
    ends = [(room, door) for room in range(rooms) for door in range(doors)]
    webs = [samples.joined([doors] * rooms, tied) for tied in samples.all_tied(ends)]
    return sorted({plain_told(web) for web in webs if samples.plain_is_web(web)})


def plain_sees_all(web, room, way):
    rooms = {room}
    for many in range(len(way) + 1):
        end = samples.plain_gone(web, room, tuple(way[:many]))
        if end is None:
            return False
        rooms.add(end[0])
    return rooms == set(range(len(web)))


class EvenWebsTest(unittest.TestCase):
    def test_told_webs(self):
        self.assertEqual(even_webs(1, 0), [LONE])
        self.assertEqual(even_webs(1, 1), [SELF_DOOR])
        self.assertEqual(even_webs(2, 1), [line(2)])
        self.assertEqual(even_webs(3, 1), [])
        self.assertEqual(even_webs(1, 2), [(((0, 0), (0, 1)),), LOOP])
        self.assertEqual(even_webs(2, 2), [
            (((0, 0), (1, 0)), ((0, 1), (1, 1))), (((0, 0), (1, 1)), ((1, 0), (0, 1))),
            (((1, 0), (0, 1)), ((0, 0), (1, 1))), TWICE,
            (((1, 1), (0, 1)), ((1, 0), (0, 0))), TWICE_ACROSS])

    def test_rooms_without_doors(self):
        for rooms in range(2, 40):
            self.assertEqual(even_webs(rooms, 0), [])

    def test_all_sizes(self):
        for rooms, doors in SIZES:
            told = even_webs(rooms, doors)
            self.assertIs(type(told), list)
            self.assertEqual(told, sorted(set(told)))
            for web in told:
                self.assertIs(is_web(web), True)
                self.assertEqual([len(ends) for ends in web], [doors] * rooms)
                self.assertEqual(told_from(web, 0), web)

    def test_each_one_that_there_is(self):
        for rooms, doors in SIZES:
            self.assertEqual(even_webs(rooms, doors), plain_even(rooms, doors))

    def test_how_many(self):
        # Under its first room a web of others has as many numberings as they have orders.
        for rooms, doors in SIZES + [(3, 3), (5, 2)]:
            if doors:
                wanted = connected(rooms, doors) // math.factorial(rooms - 1)
                self.assertEqual(len(even_webs(rooms, doors)), wanted)
        self.assertEqual([len(even_webs(1, doors)) for doors in range(9)], [1, 1, 2, 4, 10, 26, 76, 232, 764])
        self.assertEqual([len(even_webs(2, doors)) for doors in range(1, 5)], [1, 6, 60, 664])
        self.assertEqual([len(even_webs(rooms, 2)) for rooms in range(1, 5)], [2, 6, 16, 40])

    def test_the_told_list_is_the_askers_own(self):
        one, other = even_webs(2, 2), even_webs(2, 2)
        one.clear()
        self.assertEqual(len(other), 6)
        self.assertEqual(even_webs(2, 2), other)


class SeesAllTest(unittest.TestCase):
    def test_told(self):
        self.assertIs(sees_all(LONE, 0, ()), True)
        self.assertIs(sees_all(LONE, 0, (0,)), False)
        self.assertIs(sees_all(SELF_DOOR, 0, (0, 0)), True)
        self.assertIs(sees_all(SELF_DOOR, 0, (0, 1)), False)
        self.assertIs(sees_all(line(2), 0, ()), False)
        self.assertIs(sees_all(line(2), 0, (0,)), True)
        self.assertIs(sees_all(line(2), 1, [0]), True)
        self.assertIs(sees_all(line(3), 1, (0, 0)), False)
        self.assertIs(sees_all(line(3), 1, (0, 0, 1)), True)
        self.assertIs(sees_all(line(3), 1, (1, 0, 0)), True)
        # All rooms are come to, and then the way goes on through a door that isn't there.
        self.assertIs(sees_all(line(3), 0, (0, 1, 1)), False)
        self.assertIs(sees_all(line(3), 0, (0, 1, 0)), True)
        self.assertIs(sees_all(ring(24), 7, (0,) * 23), True)
        self.assertIs(sees_all(ring(24), 7, (0,) * 22), False)
        self.assertIs(sees_all(ring(24), 7, (1,) * 60), True)

    def test_all_short_ways(self):
        told = 0
        for web in [web for web in samples.SMALL[::3] if len(web) <= 3] + [MIXED, line(4), ring(4)]:
            for room in range(len(web)):
                for way in samples.ways(min(samples.most_doors(web) + 1, 4), 4):
                    wanted = plain_sees_all(web, room, way)
                    told += wanted
                    self.assertIs(sees_all(web, room, way), wanted)
        self.assertGreater(told, 100)

    def test_what_is_handed_in_stays(self):
        way = [0, 1]
        self.assertIs(sees_all(line(3), 0, way), True)
        self.assertEqual(way, [0, 1])


if __name__ == "__main__":
    unittest.main()
