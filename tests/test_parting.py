import itertools
import unittest

from stonewalker.kinds import kinds_by
from stonewalker.numbering import renumbered, same_web
from stonewalker.parting import parting, parting_with_stone, seen_with_stone, shows_parting
from tests import samples
from tests.samples import LONE, LOOP, MIXED, SELF_DOOR, TWICE, TWICE_ACROSS, line, ring, wheel


def rooms_of(one, other):
    return itertools.product(range(len(one)), range(len(other)))


class PartingTest(unittest.TestCase):
    def test_unlike_many_doors(self):
        self.assertEqual(parting(LONE, 0, SELF_DOOR, 0), ())
        self.assertEqual(parting(line(3), 0, line(3), 1), ())
        self.assertEqual(parting(MIXED, 0, MIXED, 2), ())
        self.assertEqual(parting(LOOP, 0, MIXED, 1), ())

    def test_alike_rooms(self):
        self.assertIsNone(parting(LONE, 0, LONE, 0))
        self.assertIsNone(parting(LOOP, 0, ring(7), 3))
        for one, other in itertools.product([1, 2, 3, 8, 24], repeat=2):
            self.assertIsNone(parting(ring(one), one - 1, ring(other), 0))
        self.assertIsNone(parting(SELF_DOOR, 0, line(2), 1))

    def test_a_room_and_itself(self):
        for web in samples.NAMED + samples.GREAT:
            for room in range(len(web)):
                self.assertIsNone(parting(web, room, web, room))

    def test_doors_come_in_by(self):
        self.assertEqual(parting(TWICE, 0, TWICE_ACROSS, 0), (0,))
        self.assertEqual(parting((((0, 0), (0, 1)),), 0, LOOP, 0), (0,))
        self.assertEqual(parting(line(6), 0, line(6), 5), (0,))

    def test_the_first_of_several_with_the_fewest_doors(self):
        web = samples.joined([3, 1, 1, 2, 3, 1, 1], [((0, 0), (1, 0)), ((0, 1), (2, 0)), ((0, 2), (3, 0)),
                                                    ((3, 1), (4, 2)), ((4, 0), (5, 0)), ((4, 1), (6, 0))])
        self.assertEqual(parting(web, 0, web, 4), (2,))
        self.assertEqual(parting(line(24), 11, line(24), 12), (0,) * 11)
        self.assertEqual(parting(line(7), 3, line(5), 2), (0, 0))
        self.assertEqual(parting(line(7), 3, line(8), 3), (1, 1, 1))

    def test_lines(self):
        for many in range(3, 25):
            web = line(many)
            for a, b in itertools.combinations(range(1, many - 1), 2):
                left, right = min(a, b), many - 1 - max(a, b)
                wanted = (0,) * left if left <= right else (1,) * right
                self.assertEqual(parting(web, a, web, b), wanted)
                self.assertEqual(parting(web, b, web, a), wanted)
                self.assertIs(shows_parting(web, a, web, b, wanted), True)
        for many in range(3, 24):
            self.assertEqual(parting(line(many), 0, line(many + 1), 0), (0,) + (1,) * (many - 2))

    def test_rooms_that_only_long_ways_part(self):
        self.assertEqual(parting(line(23), 0, line(24), 0), (0,) + (1,) * 21)
        # The longer way is there and back along a line of which only the near ends differ.
        one = samples.joined([3] + [2] * 22 + [1],
                             [((0, 1), (0, 2)), ((0, 0), (1, 0))] + [((r, 1), (r + 1, 0)) for r in range(1, 23)])
        other = samples.joined([3] + [2] * 22 + [1],
                               [((0, 1), (0, 1)), ((0, 2), (0, 2)), ((0, 0), (1, 0))]
                               + [((r, 1), (r + 1, 0)) for r in range(1, 23)])
        self.assertEqual(parting(one, 23, other, 23), (0,) * 23 + (1,))

    def test_the_least_of_all_ways(self):
        apart = alike = 0
        for one, other in samples.COUPLES:
            for a, b in rooms_of(one, other):
                wanted = samples.plain_parting(one, a, other, b)
                told = parting(one, a, other, b)
                self.assertEqual(told, wanted, (one, a, other, b))
                self.assertIs(type(told), type(wanted))
                apart += wanted is not None and len(wanted) > 1
                alike += wanted is None
        self.assertGreater(apart, 20)
        self.assertGreater(alike, 20)

    def test_rooms_of_one_web(self):
        for web in samples.SMALL[::3]:
            for a, b in rooms_of(web, web):
                self.assertEqual(parting(web, a, web, b), samples.plain_parting(web, a, web, b))

    def test_webs_to_the_bounds(self):
        for web in samples.GREAT:
            by_steps = [kinds_by(web, steps) for steps in range(25)]
            for a, b in rooms_of(web, web):
                way = parting(web, a, web, b)
                kept = [any(a in kind and b in kind for kind in found) for found in by_steps]
                self.assertEqual(kept.index(False) if False in kept else None, None if way is None else len(way))
                if way is not None:
                    self.assertNotEqual(samples.plain_seen(web, a, way), samples.plain_seen(web, b, way))
                    self.assertIs(shows_parting(web, a, web, b, way), True)
        web = samples.GREAT_APART
        for a, b in itertools.combinations(range(0, 24, 3), 2):
            self.assertEqual(parting(web, a, web, b), samples.plain_parting(web, a, web, b))

    def test_the_same_question_is_told_the_same(self):
        web = samples.GREAT_SHEETS
        self.assertEqual([parting(web, 0, web, room) for room in range(24)],
                         [parting(web, 0, web, room) for room in range(24)])


class ShowsPartingTest(unittest.TestCase):
    def test_ways_that_part(self):
        self.assertIs(shows_parting(LONE, 0, SELF_DOOR, 0, ()), True)
        self.assertIs(shows_parting(LONE, 0, SELF_DOOR, 0, []), True)
        self.assertIs(shows_parting(line(24), 11, line(24), 12, [0] * 11), True)
        self.assertIs(shows_parting(line(24), 11, line(24), 12, (1,) * 11), True)

    def test_ways_that_do_not(self):
        self.assertIs(shows_parting(LONE, 0, SELF_DOOR, 0, (0,)), False)
        self.assertIs(shows_parting(line(24), 11, line(24), 12, (0,) * 10), False)
        self.assertIs(shows_parting(line(24), 11, line(24), 12, (0,) * 12), False)
        self.assertIs(shows_parting(line(24), 11, line(24), 12, (0,) * 10 + (1,)), False)
        self.assertIs(shows_parting(line(24), 11, line(24), 12, (2,) * 11), False)
        self.assertIs(shows_parting(TWICE, 0, TWICE_ACROSS, 0, (2,)), False)
        self.assertIs(shows_parting(TWICE, 0, TWICE_ACROSS, 0, (10 ** 30,)), False)
        for way in [(), [], (0,), None, False]:
            self.assertIs(shows_parting(ring(3), 0, ring(4), 1, way), False)

    def test_true_and_false_are_no_numbers(self):
        self.assertIs(shows_parting(TWICE, 0, TWICE_ACROSS, 0, (0,)), True)
        self.assertIs(shows_parting(TWICE, 0, TWICE_ACROSS, 0, (1,)), True)
        self.assertIs(shows_parting(TWICE, 0, TWICE_ACROSS, 0, (False,)), False)
        self.assertIs(shows_parting(TWICE, 0, TWICE_ACROSS, 0, [True]), False)
        self.assertIs(shows_parting(line(5), 2, line(7), 3, [1, True]), False)
        self.assertIs(shows_parting(TWICE, 0, TWICE_ACROSS, 0, (-1,)), False)

    def test_anything_is_told_true_or_false(self):
        couples = [(LONE, 0, SELF_DOOR, 0), (TWICE, 0, TWICE_ACROSS, 0), (line(7), 3, line(5), 2), (ring(3), 0, LOOP, 0)]
        for thing in samples.odd_things():
            for couple in couples:
                self.assertIs(shows_parting(*couple, thing), False)
                self.assertIs(shows_parting(*couple, [0, thing]), couple == couples[2] and thing in (0, 1)
                              and thing is not True and thing is not False and self.parts_line(thing))
                self.assertIs(shows_parting(*couple, (thing,)), couple == couples[1] and thing in (0, 1)
                              and thing is not True and thing is not False)

    def parts_line(self, door):
        return samples.plain_seen(line(7), 3, (0, door)) != samples.plain_seen(line(5), 2, (0, door))

    def test_by_the_words_of_the_point(self):
        parts = [0, 1, 2, 5, -1, True, False, None, "0", (0,)]
        things = [thing for many in range(4) for thing in itertools.product(parts, repeat=many)]
        couples = [(TWICE, 0, TWICE_ACROSS, 1), (line(4), 1, line(5), 1), (MIXED, 0, MIXED, 1),
                   (line(5), 1, line(5), 3), (line(6), 2, line(7), 2)]
        for one, a, other, b in couples:
            fewest = len(samples.plain_parting(one, a, other, b))
            for thing in things:
                shown = all(type(part) is int and part >= 0 for part in thing) and len(thing) == fewest
                shown = shown and samples.plain_seen(one, a, thing) != samples.plain_seen(other, b, thing)
                self.assertIs(shows_parting(one, a, other, b, thing), shown, thing)
                self.assertIs(shows_parting(one, a, other, b, list(thing)), shown, thing)

    def test_what_is_handed_in_stays(self):
        way = [0] * 11
        shows_parting(line(24), 11, line(24), 12, way)
        self.assertEqual(way, [0] * 11)


class StoneTest(unittest.TestCase):
    def test_seen_with_stone(self):
        self.assertEqual(seen_with_stone(ring(3), 1, (0, 0, 0)), (2, (1, 2, 0), (1, 2, 0), (1, 2, 1)))
        self.assertEqual(seen_with_stone(ring(3), 1, [0, 1, 1, 0]), (2, (1, 2, 0), (0, 2, 1), (0, 2, 0), (1, 2, 1)))
        self.assertEqual(seen_with_stone(MIXED, 0, (0, 1, 3, 0)), (5, (0, 5, 1), (2, 5, 1), (1, 3, 0), (4, 5, 1)))
        self.assertEqual(seen_with_stone(LOOP, 0, (0,)), (2, (1, 2, 1)))

    def test_way_without_doors(self):
        for way in [(), []]:
            self.assertEqual(seen_with_stone(LONE, 0, way), (0,))
            self.assertEqual(seen_with_stone(MIXED, 1, way), (3,))

    def test_ways_that_are_not_possible(self):
        for way in [(5,), (5, 0), (3, 3, 0), (3, 2, 2), [9], [3, 9], (-1,)]:
            self.assertIsNone(seen_with_stone(MIXED, 0, way))
        self.assertIsNone(seen_with_stone(LONE, 0, (0,)))

    def test_all_short_ways(self):
        for web in samples.NAMED:
            for room in range(len(web)):
                for way in samples.ways(samples.most_doors(web) + 1, 3):
                    wanted = samples.plain_seen(web, room, way, True)
                    self.assertEqual(seen_with_stone(web, room, way), wanted)
                    told = seen_with_stone(web, room, list(way))
                    self.assertEqual(told, wanted)
                    self.assertTrue(told is None or all(type(part) is int for step in told[1:] for part in step))

    def test_told_partings(self):
        self.assertEqual(parting_with_stone(LONE, 0, SELF_DOOR, 0), ())
        self.assertEqual(parting_with_stone(ring(3), 0, ring(6), 0), (0, 0, 0))
        self.assertEqual(parting_with_stone(ring(6), 2, ring(3), 1), (0, 0, 0))
        self.assertEqual(parting_with_stone(LOOP, 0, ring(2), 1), (0,))
        self.assertEqual(parting_with_stone(SELF_DOOR, 0, line(2), 0), (0,))
        self.assertIsNone(parting_with_stone(ring(6), 2, ring(6), 5))
        self.assertIsNone(parting_with_stone(LONE, 0, LONE, 0))

    def test_rings(self):
        for one, other in itertools.product(range(1, 25), repeat=2):
            wanted = None if one == other else (0,) * min(one, other)
            self.assertEqual(parting_with_stone(ring(one), 0, ring(other), other - 1), wanted)

    def test_the_least_of_all_ways(self):
        by_stone = 0
        for one, other in samples.COUPLES:
            for a, b in rooms_of(one, other):
                wanted = samples.plain_parting(one, a, other, b, True)
                self.assertEqual(parting_with_stone(one, a, other, b), wanted, (one, a, other, b))
                by_stone += wanted is not None and parting(one, a, other, b) is None
        self.assertGreater(by_stone, 20)

    def test_none_just_where_the_webs_are_the_same(self):
        great = samples.GREAT + [wheel(24, (1, 7, 5)), samples.sheeted_whole(samples.shuffled_web([6] * 8, 5), 2)]
        for one, other in itertools.product(great, repeat=2):
            for b in range(0, len(other), 5):
                told = parting_with_stone(one, 3, other, b)
                self.assertEqual(told is None, same_web(one, 3, other, b) is not None)
                if told is not None:
                    self.assertNotEqual(seen_with_stone(one, 3, told), seen_with_stone(other, b, told))
        numbers = tuple(room * 7 % 24 for room in range(24))
        for web in samples.GREAT:
            self.assertIsNone(parting_with_stone(web, 5, renumbered(web, numbers), numbers[5]))

    def test_what_is_handed_in_stays(self):
        way = [0, 1, 1]
        told = seen_with_stone(ring(3), 0, way)
        self.assertEqual(way, [0, 1, 1])
        way.append(0)
        self.assertEqual(told, seen_with_stone(ring(3), 0, (0, 1, 1)))


if __name__ == "__main__":
    unittest.main()
