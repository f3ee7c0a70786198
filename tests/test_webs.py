import copy
import itertools
import unittest

from stonewalker.webs import back_way, gone, is_web, seen, ties, way_to
from tests import samples
from tests.samples import LONE, LOOP, MIXED, SELF_DOOR, TWICE, TWICE_ACROSS, line, ring


class IsWebTest(unittest.TestCase):
    def test_webs_are_webs(self):
        for web in samples.NAMED + samples.GREAT + samples.SMALL:
            self.assertIs(is_web(web), True, web)

    def test_no_rooms_at_all(self):
        self.assertIs(is_web(()), False)
        self.assertIs(is_web([]), False)

    def test_one_room_without_doors(self):
        self.assertIs(is_web(((),)), True)

    def test_rooms_that_are_not_come_to(self):
        self.assertIs(is_web(((), ())), False)
        self.assertIs(is_web((((0, 0),), ((1, 0),))), False)
        self.assertIs(is_web((((1, 0),), ((0, 0),), ())), False)
        self.assertIs(is_web(TWICE + (((2, 1), (2, 0)),)), False)

    def test_ends_that_are_not_there(self):
        for end in [(1, 0), (0, 1), (9, 0), (0, 9), (-1, 0), (0, -1), (-1, -1), (10 ** 30, 0), (0, 10 ** 30)]:
            self.assertIs(is_web(((end,),)), False, end)

    def test_numbers_below_nought_do_not_count_from_behind(self):
        self.assertIs(is_web((((-1, 0),), ((0, 0),))), False)
        self.assertIs(is_web((((1, -1),), ((0, 0),))), False)
        self.assertIs(is_web((((-1, -1),), ((-2, -1),))), False)

    def test_ends_that_do_not_lead_back(self):
        self.assertIs(is_web((((0, 1), (0, 1)),)), False)
        self.assertIs(is_web((((0, 1), (0, 2), (0, 0)),)), False)
        self.assertIs(is_web((((1, 0), (1, 0)), ((0, 0),))), False)

    def test_true_and_false_are_no_numbers(self):
        self.assertIs(is_web((((False, 0),),)), False)
        self.assertIs(is_web((((0, False),),)), False)
        self.assertIs(is_web((((True, 0),), ((0, 0),))), False)
        self.assertIs(is_web((((0, True), (0, 0)),)), False)

    def test_a_list_in_the_place_of_a_tuple(self):
        self.assertIs(is_web([((0, 0),)]), False)
        self.assertIs(is_web(([(0, 0)],)), False)
        self.assertIs(is_web((([0, 0],),)), False)
        self.assertIs(is_web(([],)), False)
        self.assertIs(is_web([()]), False)

    def test_ends_of_unlike_length(self):
        self.assertIs(is_web(((),) + ((),)), False)
        self.assertIs(is_web((((0,),),)), False)
        self.assertIs(is_web((((),),)), False)
        self.assertIs(is_web((((0, 0, 0),),)), False)

    def test_bounds_are_not_looked_at(self):
        self.assertIs(is_web(ring(3000)), True)
        self.assertIs(is_web(line(20000)), True)
        self.assertIs(is_web((tuple((0, door) for door in range(400)),)), True)

    def test_anything_is_told_true_or_false(self):
        for thing in samples.odd_things():
            self.assertIs(is_web(thing), False)
            self.assertIs(is_web((thing,)), thing == ())
            self.assertIs(is_web(((thing,),)), False)
            self.assertIs(is_web((((thing, 0),),)), thing == 0 and thing is not False)
            self.assertIs(is_web((((0, thing),),)), thing == 0 and thing is not False)

    def test_all_of_two_doors(self):
        parts = [0, 1, 2, -1, True, False, None, "0"]
        ends = list(itertools.product(parts, repeat=2)) + [None, (), (0,), [0, 1], "00"]
        for one, other in itertools.product(ends, repeat=2):
            for thing in [((one, other),), ((one,), (other,))]:
                self.assertIs(is_web(thing), samples.plain_is_web(thing), thing)

    def test_spoilt_webs(self):
        webs = 0
        for seed in range(4000):
            thing = samples.spoilt(samples.NAMED[seed % len(samples.NAMED)], seed)
            told = samples.plain_is_web(thing)
            webs += told
            self.assertIs(is_web(thing), told, thing)
        self.assertGreater(webs, 0)


class TiesTest(unittest.TestCase):
    def test_told_ties(self):
        self.assertEqual(ties(LONE), [])
        self.assertEqual(ties(SELF_DOOR), [((0, 0), (0, 0))])
        self.assertEqual(ties(LOOP), [((0, 0), (0, 1))])
        self.assertEqual(ties(TWICE_ACROSS), [((0, 0), (1, 1)), ((0, 1), (1, 0))])
        self.assertEqual(ties(MIXED), [((0, 0), (0, 0)), ((0, 1), (0, 2)), ((0, 3), (1, 1)), ((0, 4), (1, 0)),
                                       ((1, 2), (2, 0)), ((2, 1), (2, 1))])

    def test_ties_of_all_webs(self):
        for web in samples.NAMED + samples.GREAT + samples.SMALL:
            told = ties(web)
            wanted = sorted({tuple(sorted([(r, i), end])) for r, room in enumerate(web) for i, end in enumerate(room)})
            self.assertEqual(told, wanted)
            self.assertIs(type(told), list)
            self.assertTrue(all(type(tie) is tuple and len(tie) == 2 for tie in told))

    def test_told_list_is_the_askers_own(self):
        told = ties(MIXED)
        told.append("more")
        told[0] = None
        self.assertEqual(ties(MIXED)[0], ((0, 0), (0, 0)))
        self.assertEqual(len(ties(MIXED)), 6)
        self.assertIsNot(ties(MIXED), ties(MIXED))


class WaysTest(unittest.TestCase):
    def test_gone(self):
        self.assertEqual(gone(MIXED, 0, (0,)), (0, 0))
        self.assertEqual(gone(MIXED, 0, (1,)), (0, 2))
        self.assertEqual(gone(MIXED, 0, (3,)), (1, 1))
        self.assertEqual(gone(MIXED, 0, (4, 2, 1)), (2, 1))
        self.assertEqual(gone(MIXED, 0, (0, 1, 2, 3, 0, 4)), (1, 0))
        self.assertEqual(gone(LONE, 0, ()), (0, None))
        self.assertEqual(gone(line(3), 2, []), (2, None))

    def test_seen(self):
        self.assertEqual(seen(MIXED, 0, (4, 2, 1)), (5, (0, 3), (0, 2), (1, 2)))
        self.assertEqual(seen(MIXED, 0, (0, 1, 2)), (5, (0, 5), (2, 5), (1, 5)))
        self.assertEqual(seen(LONE, 0, ()), (0,))
        self.assertEqual(seen(line(3), 1, []), (2,))
        self.assertEqual(seen(TWICE, 1, [1, 0]), (2, (1, 2), (0, 2)))

    def test_back_way(self):
        self.assertEqual(back_way(MIXED, 0, (4, 2, 1)), (1, 0, 0))
        self.assertEqual(back_way(MIXED, 0, [1, 3]), (1, 2))
        self.assertEqual(back_way(LONE, 0, ()), ())
        self.assertEqual(back_way(LOOP, 0, [0, 0, 1]), (0, 1, 1))

    def test_ways_that_are_not_possible(self):
        not_possible = [(5,), (5, 0, 0), (3, 3, 0), (3, 2, 2), (4, 2, 0, 3), (3, 2, 1, 10 ** 20), (-1,), (3, -1)]
        for way in not_possible:
            for given in (way, list(way)):
                self.assertIsNone(gone(MIXED, 0, given), way)
                self.assertIsNone(seen(MIXED, 0, given), way)
                self.assertIsNone(back_way(MIXED, 0, given), way)
        self.assertIsNone(gone(LONE, 0, (0,)))
        self.assertIsNone(seen(LONE, 0, (0,)))
        self.assertIsNone(back_way(LONE, 0, (0,)))

    def test_all_short_ways(self):
        for web in samples.NAMED + samples.SMALL[::9]:
            most = 3 if samples.most_doors(web) > 3 else 4
            for room in range(len(web)):
                for way in samples.ways(samples.most_doors(web) + 1, most):
                    self.check_way(web, room, way)

    def check_way(self, web, room, way):
        end = samples.plain_gone(web, room, way)
        self.assertEqual(gone(web, room, way), end)
        self.assertEqual(seen(web, room, way), samples.plain_seen(web, room, way))
        self.assertEqual(gone(web, room, list(way)), end)
        self.assertEqual(seen(web, room, list(way)), samples.plain_seen(web, room, way))
        back = back_way(web, room, way)
        self.assertEqual(back_way(web, room, list(way)), back)
        if end is None:
            self.assertIsNone(back)
            return
        self.assertIs(type(back), tuple)
        self.assertEqual(len(back), len(way))
        self.assertEqual(samples.plain_gone(web, end[0], back)[0], room)
        self.assertEqual(back_way(web, end[0], back), way)

    def test_long_ways(self):
        for web in samples.GREAT:
            way = tuple(step * 7 % 6 % len(web[5]) for step in range(60))
            self.assertEqual(gone(web, 5, way), samples.plain_gone(web, 5, way))
            self.assertEqual(seen(web, 5, way), samples.plain_seen(web, 5, way))

    def test_told_things_are_tuples(self):
        for way in [(), [], (0,), [0], [1, 2, 3]]:
            for told in [gone(MIXED, 0, way), seen(MIXED, 0, way), back_way(MIXED, 0, way)]:
                self.assertIs(type(told), tuple)
            self.assertTrue(all(type(step) is tuple for step in seen(MIXED, 0, way)[1:]))

    def test_given_lists_stay_and_are_not_kept(self):
        way = [4, 2, 1]
        told = (gone(MIXED, 0, way), seen(MIXED, 0, way), back_way(MIXED, 0, way))
        self.assertEqual(way, [4, 2, 1])
        kept = copy.deepcopy(told)
        way[0] = 0
        way.append(7)
        self.assertEqual(told, kept)
        self.assertEqual((gone(MIXED, 0, [4, 2, 1]), seen(MIXED, 0, [4, 2, 1]), back_way(MIXED, 0, [4, 2, 1])), kept)


class WayToTest(unittest.TestCase):
    def test_to_itself(self):
        for web in samples.NAMED + samples.GREAT:
            for room in range(len(web)):
                self.assertEqual(way_to(web, room, room), ())

    def test_told_ways(self):
        self.assertEqual(way_to(line(5), 0, 4), (0, 1, 1, 1))
        self.assertEqual(way_to(line(5), 4, 1), (0, 0, 0))
        self.assertEqual(way_to(MIXED, 0, 2), (3, 2))
        self.assertEqual(way_to(TWICE_ACROSS, 0, 1), (0,))
        self.assertEqual(way_to(line(24), 0, 23), (0,) + (1,) * 22)

    def test_the_first_of_several_with_the_fewest_doors(self):
        self.assertEqual(way_to(ring(6), 0, 3), (0, 0, 0))
        self.assertEqual(way_to(ring(6), 0, 4), (1, 1))
        square = samples.joined([2, 2, 2, 2], [((0, 0), (2, 0)), ((0, 1), (1, 0)), ((1, 1), (3, 0)), ((2, 1), (3, 1))])
        self.assertEqual(way_to(square, 0, 3), (0, 1))
        self.assertEqual(way_to(square, 3, 0), (0, 0))

    def test_the_least_of_all_ways(self):
        for web in samples.NAMED + samples.SMALL:
            for one in range(min(len(web), 5)):
                for other in range(min(len(web), 6)):
                    told = way_to(web, one, other)
                    self.assertEqual(told, samples.plain_way_to(web, one, other))
                    self.assertIs(type(told), tuple)

    def test_the_same_question_is_told_the_same(self):
        for web in samples.GREAT:
            self.assertEqual([way_to(web, 3, room) for room in range(24)], [way_to(web, 3, room) for room in range(24)])


if __name__ == "__main__":
    unittest.main()
