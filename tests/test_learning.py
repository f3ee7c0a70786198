import random
import unittest

from stonewalker.folding import can_be_learnt
from stonewalker.learning import learnt, view, whereabouts
from stonewalker.numbering import renumbered
from stonewalker.walker import Walker, onlooker
from tests import samples
from tests.samples import LONE, LOOP, MIXED, SELF_DOOR, Bare, Handless, line, ring

LITTLE = [web for web in samples.SMALL if max(map(len, web)) <= 3]
# Webs of four and five rooms with three doors, among them such with rooms alike.
FIVES = [ring(4), ring(5), line(4), line(5), samples.wheel(5, (1,)), samples.wheel(4, (1,)),
         samples.shuffled_web([3] * 5, 1), samples.shuffled_web([3] * 5, 2), samples.shuffled_web([3, 2, 3, 2, 3], 3),
         samples.shuffled_web([3] * 4, 4), samples.shuffled_web([1, 1, 2, 3, 3], 5),
         samples.sheeted_whole((((0, 1), (0, 0), (0, 2)),), 5), samples.sheeted_whole((((0, 1), (0, 0), (0, 2)),), 4),
         samples.sheeted_whole((((1, 0), (1, 2)), ((0, 0), (1, 1), (0, 1))), 2),
         # Rooms in a row with a door more to themselves: apart by the ends of the row alone.
         samples.joined([3] * 5, [((room, 1), (room + 1, 0)) for room in range(4)]
                        + [((room, 2), (room, 2)) for room in range(5)] + [((0, 0), (0, 0)), ((4, 1), (4, 1))])]


def plain_view(web, room, deep):
    """The view by the words of the point, off the web itself."""
    told = (len(web[room]),)
    if deep:
        told += tuple((come, plain_view(web, there, deep - 1)) for there, come in web[room])
    return told


def seen_by_view(told, way):
    """What the way sees, as read off a view that is deep enough; None where it isn't possible."""
    seen = (told[0],)
    for door in way:
        if door >= told[0]:
            return None
        come, told = told[1 + door]
        seen += ((come, told[0]),)
    return seen


def learners(web):
    """Each of the three as a question to a walker; learnt for webs within its bounds alone."""
    told = [lambda walker: view(walker, 3), lambda walker: whereabouts(walker, web)]
    if len(web) <= 5 and samples.most_doors(web) <= 3:
        told.append(lambda walker: learnt(walker, len(web)))
    return told


class ViewTest(unittest.TestCase):
    def test_told_views(self):
        self.assertEqual(view(Walker(line(3), 0, 0), 0), (1,))
        self.assertEqual(view(Walker(line(3), 0, 0), 1), (1, (0, (2,))))
        self.assertEqual(view(Walker(line(3), 0, 0), 2), (1, (0, (2, (0, (1,)), (0, (1,))))))
        self.assertEqual(view(Walker(SELF_DOOR, 0, 0), 2), (1, (0, (1, (0, (1,))))))
        self.assertEqual(view(Walker(LOOP, 0, 0), 1), (2, (1, (2,)), (0, (2,))))
        self.assertEqual(view(Walker(MIXED, 2, 0), 1), (2, (2, (3,)), (1, (2,))))

    def test_a_room_without_doors(self):
        for deep in range(7):
            self.assertEqual(view(Walker(LONE, 0, 0), deep), (0,))

    def test_all_depths(self):
        for web in samples.NAMED + LITTLE[::7] + FIVES:
            for room in range(len(web)):
                for deep in range(5 if samples.most_doors(web) > 3 else 7):
                    self.assertEqual(view(Walker(web, room, 0), deep), plain_view(web, room, deep))

    def test_to_the_bounds(self):
        web = samples.GREAT_APART
        walker = Walker(web, 23, 0)
        self.assertEqual(view(walker, 6), plain_view(web, 23, 6))
        self.assertEqual(onlooker(walker), (23, ()))
        self.assertEqual(walker.steps(), 2 * sum(6 ** deep for deep in range(1, 7)))

    def test_by_what_ways_see(self):
        for web in samples.NAMED[:8]:
            for room in range(len(web)):
                told = view(Walker(web, room, 0), 3)
                for way in samples.ways(samples.most_doors(web) + 1, 3):
                    self.assertEqual(seen_by_view(told, way), samples.plain_seen(web, room, way))


class LearntTest(unittest.TestCase):
    def test_told_webs(self):
        self.assertEqual(learnt(Walker(ring(5), 3, 0), 5), LOOP)
        self.assertEqual(learnt(Walker(line(2), 1, 0), 2), SELF_DOOR)
        self.assertEqual(learnt(Walker(LONE, 0, 0), 1), LONE)
        self.assertEqual(learnt(Walker(LONE, 0, 0), 5), LONE)
        self.assertEqual(learnt(Walker(line(3), 1, 0), 3), (((1, 0), (2, 0)), ((0, 0),), ((0, 1),)))

    def test_webs_of_at_most_so_many_rooms(self):
        for web in LITTLE + FIVES:
            for room in range(len(web)):
                wanted = can_be_learnt(web, room)
                for most in range(len(web), 6):
                    walker = Walker(web, room, 0)
                    self.assertEqual(learnt(walker, most), wanted)
                    self.assertEqual(onlooker(walker), (room, ()))

    def test_rooms_that_long_ways_alone_part(self):
        # With just as many rooms as are allowed, the last step that could part two rooms does.
        web = FIVES[-1]
        self.assertEqual(len(learnt(Walker(web, 2, 0), 5)), 5)
        self.assertEqual(learnt(Walker(line(5), 2, 0), 5), can_be_learnt(line(5), 2))
        for many in range(2, 6):
            rows = samples.joined([2] * many, [((room, 1), (room + 1, 0)) for room in range(many - 1)]
                                  + [((0, 0), (0, 0)), ((many - 1, 1), (many - 1, 1))])
            for room in range(many):
                self.assertEqual(learnt(Walker(rows, room, 0), many), can_be_learnt(rows, room))
            hooks = samples.joined([2] * many, [((room, 1), (room + 1, 0)) for room in range(many - 1)]
                                   + [((0, 0), (many - 1, 1))])
            self.assertEqual(learnt(Walker(hooks, 0, 0), many), LOOP)

    def test_numbers_of_rooms_do_not_matter(self):
        for web in FIVES:
            numbers = tuple(reversed(range(len(web))))
            other = renumbered(web, numbers)
            for room in range(len(web)):
                self.assertEqual(learnt(Walker(web, room, 0), 5), learnt(Walker(other, numbers[room], 0), 5))


class WhereaboutsTest(unittest.TestCase):
    def test_told_rooms(self):
        self.assertEqual(whereabouts(Walker(ring(4), 2, 0), ring(4)), [0, 1, 2, 3])
        self.assertEqual(whereabouts(Walker(line(2), 1, 0), line(2)), [0, 1])
        self.assertEqual(whereabouts(Walker(line(3), 2, 0), line(3)), [2])
        self.assertEqual(whereabouts(Walker(LONE, 0, 0), LONE), [0])

    def test_from_each_room(self):
        for web in samples.NAMED + samples.SMALL + FIVES:
            for room in range(len(web)):
                walker = Walker(web, room, 0)
                told = whereabouts(walker, web)
                self.assertIs(type(told), list)
                self.assertEqual(told, samples.plain_kind(web, room))
                self.assertEqual(onlooker(walker), (room, ()))

    def test_to_the_bounds(self):
        numbers = tuple(room * 7 % 24 for room in range(24))
        for web in samples.GREAT + [renumbered(web, numbers) for web in samples.GREAT]:
            for room in range(24):
                walker = Walker(web, room, 0)
                self.assertEqual(whereabouts(walker, web), samples.plain_kind(web, room))
                self.assertEqual(onlooker(walker), (room, ()))

    def test_the_told_list_is_the_askers_own(self):
        walker = Walker(ring(4), 2, 0)
        one, other = whereabouts(walker, ring(4)), whereabouts(walker, ring(4))
        one.append(9)
        self.assertEqual(other, [0, 1, 2, 3])
        self.assertEqual(whereabouts(walker, ring(4)), [0, 1, 2, 3])


class AllLearnersTest(unittest.TestCase):
    def test_by_five_methods_alone(self):
        for web in FIVES + LITTLE[::11]:
            for room in range(len(web)):
                walker = Walker(web, room, 2)
                bare = Bare(walker)
                self.assertEqual(view(bare, 4), plain_view(web, room, 4))
                self.assertEqual(learnt(bare, len(web)), can_be_learnt(web, room))
                self.assertEqual(whereabouts(bare, web), samples.plain_kind(web, room))
                self.assertEqual(onlooker(walker), (room, ()))

    def test_stones_play_no_part_and_stay(self):
        for seed, web in enumerate(FIVES + samples.NAMED):
            for learner in learners(web):
                for stones in range(5):
                    chance = random.Random(seed * 5 + stones)
                    walker = Walker(web, chance.randrange(len(web)), stones)
                    for _ in range(12):
                        if walker.here()[0]:
                            walker.go(chance.randrange(walker.here()[0]))
                        if walker.in_hand() and chance.random() < 0.3:
                            walker.lay()
                    before, held = onlooker(walker), walker.in_hand()
                    told = learner(Handless(walker))
                    self.assertEqual(onlooker(walker), before)
                    self.assertEqual(walker.in_hand(), held)
                    self.assertEqual(told, learner(Walker(web, before[0], 0)))

    def test_steps_are_counted(self):
        for web in FIVES:
            for learner in learners(web):
                went = []
                walker = Walker(web, 0, 0)
                bare = Bare(walker)
                bare.go = lambda door: went.append(door) or walker.go(door)
                learner(bare)
                self.assertEqual(walker.steps(), len(went))

    def test_behind_some_way_the_walker_goes_on(self):
        for web in FIVES:
            walker = Walker(web, 0, 0)
            for learner in learners(web):
                room = onlooker(walker)[0]
                learner(walker)
                self.assertEqual(onlooker(walker)[0], room)
                self.assertEqual(walker.here()[0], len(web[room]))
                walker.go(0)

    def test_the_same_question_is_told_the_same(self):
        for web in FIVES:
            walker = Walker(web, 1, 1)
            for learner in learners(web):
                self.assertEqual(learner(walker), learner(walker))


if __name__ == "__main__":
    unittest.main()
