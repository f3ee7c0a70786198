import random
import unittest

from stonewalker.errors import NoDoor, NoStone, WebError
from stonewalker.walker import Walker, onlooker
from tests import samples
from tests.samples import LONE, LOOP, MIXED, SELF_DOOR, TWICE, TWICE_ACROSS, line, ring


def all_of(walker):
    return (walker.here(), walker.in_hand(), walker.steps(), onlooker(walker))


class PlainWalker:
    """A second walker, by the words of the point alone."""

    def __init__(self, web, room, stones):
        self.web, self.room, self.come, self.hand, self.many, self.laid = web, room, None, stones, 0, {}

    def all_of(self):
        lying = sorted(room for room, many in self.laid.items() for _ in range(many))
        here = (len(self.web[self.room]), self.come, self.laid.get(self.room, 0))
        return (here, self.hand, self.many, (self.room, tuple(lying)))

    def do(self, act, door):
        """Does it and tells None, or tells the refusal that is due."""
        if act == "go":
            if door not in range(len(self.web[self.room])):
                return NoDoor
            self.room, self.come = self.web[self.room][door]
            self.many += 1
            return None
        if (self.hand if act == "lay" else self.laid.get(self.room, 0)) == 0:
            return NoStone
        change = 1 if act == "lay" else -1
        self.laid[self.room] = self.laid.get(self.room, 0) + change
        self.hand -= change
        return None


class WalkerTest(unittest.TestCase):
    def refused(self, walker, error, act, *given):
        before = all_of(walker)
        with self.assertRaises(error) as found:
            act(*given)
        self.assertIs(type(found.exception), error)
        self.assertEqual(type(found.exception).__bases__, (WebError,))
        self.assertEqual(all_of(walker), before)

    def test_ahead_of_the_first_step(self):
        for web in samples.NAMED + samples.GREAT:
            for room in range(len(web)):
                for stones in range(5):
                    walker = Walker(web, room, stones)
                    self.assertEqual(walker.here(), (len(web[room]), None, 0))
                    self.assertIs(type(walker.here()), tuple)
                    self.assertEqual(walker.in_hand(), stones)
                    self.assertEqual(walker.steps(), 0)
                    self.assertEqual(onlooker(walker), (room, ()))

    def test_each_step(self):
        for web in samples.NAMED + samples.GREAT:
            for room in range(len(web)):
                for door, (there, come) in enumerate(web[room]):
                    walker = Walker(web, room, 0)
                    self.assertEqual(walker.go(door), (len(web[there]), come, 0))
                    self.assertEqual(walker.here(), (len(web[there]), come, 0))
                    self.assertEqual(onlooker(walker), (there, ()))
                    self.assertEqual(walker.steps(), 1)
                    self.assertEqual(walker.go(come), (len(web[room]), door, 0))
                    self.assertEqual(onlooker(walker), (room, ()))
                    self.assertEqual(walker.steps(), 2)

    def test_doors_of_one_room(self):
        walker = Walker(SELF_DOOR, 0, 0)
        self.assertEqual(walker.go(0), (1, 0, 0))
        self.assertEqual(walker.steps(), 1)
        walker = Walker(LOOP, 0, 1)
        self.assertEqual(walker.lay(), (2, None, 1))
        self.assertEqual(walker.go(0), (2, 1, 1))
        self.assertEqual(walker.go(0), (2, 1, 1))
        self.assertEqual(walker.go(1), (2, 0, 1))
        self.assertEqual(walker.steps(), 3)
        walker = Walker(MIXED, 0, 0)
        self.assertEqual([walker.go(door) for door in (0, 1, 2, 3, 0, 4, 2, 1)],
                         [(5, 0, 0), (5, 2, 0), (5, 1, 0), (3, 1, 0), (5, 4, 0), (3, 0, 0), (2, 0, 0), (2, 1, 0)])
        self.assertEqual(all_of(walker), ((2, 1, 0), 0, 8, (2, ())))

    def test_several_ties_of_two_rooms(self):
        self.assertEqual(Walker(TWICE, 0, 0).go(1), (2, 1, 0))
        self.assertEqual(Walker(TWICE_ACROSS, 0, 0).go(1), (2, 0, 0))

    def test_doors_that_a_room_has_not(self):
        for web, room in [(LONE, 0), (SELF_DOOR, 0), (LOOP, 0), (MIXED, 0), (MIXED, 2), (samples.GREAT_APART, 23)]:
            walker = Walker(web, room, 2)
            doors = len(web[room])
            for door in [doors, doors + 1, -1, -doors, 99, 10 ** 30]:
                if door not in range(doors):
                    self.refused(walker, NoDoor, walker.go, door)
        walker = Walker(line(3), 0, 1)
        walker.lay()
        walker.go(0)
        self.refused(walker, NoDoor, walker.go, 2)
        self.assertEqual(walker.go(1), (1, 0, 0))
        self.refused(walker, NoDoor, walker.go, 1)

    def test_stones(self):
        walker = Walker(line(3), 0, 2)
        self.assertEqual(walker.lay(), (1, None, 1))
        self.assertEqual(walker.lay(), (1, None, 2))
        self.assertEqual(walker.in_hand(), 0)
        self.assertEqual(onlooker(walker), (0, (0, 0)))
        self.refused(walker, NoStone, walker.lay)
        self.assertEqual(walker.go(0), (2, 0, 0))
        self.refused(walker, NoStone, walker.take)
        self.refused(walker, NoStone, walker.lay)
        self.assertEqual(walker.go(0), (1, 0, 2))
        self.assertEqual(walker.take(), (1, 0, 1))
        self.assertEqual(walker.in_hand(), 1)
        self.assertEqual(walker.go(0), (2, 0, 0))
        self.assertEqual(walker.lay(), (2, 0, 1))
        self.assertEqual(onlooker(walker), (1, (0, 1)))
        self.assertEqual(walker.take(), (2, 0, 0))
        self.refused(walker, NoStone, walker.take)
        self.assertEqual(all_of(walker), ((2, 0, 0), 1, 3, (1, (0,))))

    def test_no_stones_at_all(self):
        for web in samples.NAMED:
            walker = Walker(web, 0, 0)
            self.refused(walker, NoStone, walker.lay)
            self.refused(walker, NoStone, walker.take)

    def test_where_stones_lie_rises(self):
        walker = Walker(line(4), 3, 4)
        walker.lay()
        walker.go(0)
        walker.go(0)
        walker.lay()
        walker.lay()
        walker.go(0)
        walker.lay()
        self.assertEqual(onlooker(walker), (0, (0, 1, 1, 3)))
        self.assertIs(type(onlooker(walker)), tuple)
        self.assertIs(type(onlooker(walker)[1]), tuple)
        walker.go(0)
        walker.take()
        self.assertEqual(onlooker(walker), (1, (0, 1, 3)))
        self.assertEqual(walker.here(), (2, 0, 1))

    def test_walks_by_chance(self):
        for seed, web in enumerate((samples.NAMED + samples.GREAT) * 3):
            chance = random.Random(seed)
            stones = chance.randrange(5)
            room = chance.randrange(len(web))
            walker, plain = Walker(web, room, stones), PlainWalker(web, room, stones)
            acts = {"go": walker.go, "lay": walker.lay, "take": walker.take}
            for _ in range(120):
                act = chance.choice(["go", "go", "lay", "take"])
                door = chance.randrange(-1, 7)
                due = plain.do(act, door)
                given = (door,) if act == "go" else ()
                if due is None:
                    self.assertEqual(acts[act](*given), plain.all_of()[0])
                else:
                    self.refused(walker, due, acts[act], *given)
                self.assertEqual(all_of(walker), plain.all_of())

    def test_two_walkers_in_one_web(self):
        web = ring(5)
        one, other = Walker(web, 0, 2), Walker(web, 0, 1)
        one.lay()
        self.assertEqual(other.here(), (2, None, 0))
        self.refused(other, NoStone, other.take)
        one.go(0)
        self.assertEqual(all_of(other), ((2, None, 0), 1, 0, (0, ())))
        other.lay()
        other.go(1)
        self.assertEqual(all_of(one), ((2, 1, 0), 1, 1, (1, (0,))))
        self.assertEqual(all_of(other), ((2, 0, 0), 0, 1, (4, (0,))))
        self.assertEqual(web, ring(5))

    def test_what_was_told_stays(self):
        walker = Walker(LOOP, 0, 2)
        here, watched = walker.here(), onlooker(walker)
        walker.lay()
        walker.go(0)
        self.assertEqual(here, (2, None, 0))
        self.assertEqual(watched, (0, ()))

    def test_the_same_question_is_told_the_same(self):
        walker = Walker(MIXED, 1, 2)
        walker.lay()
        walker.go(2)
        self.assertEqual(all_of(walker), all_of(walker))


if __name__ == "__main__":
    unittest.main()
