import unittest

from stonewalker.errors import NoStone
from stonewalker.numbering import told_from
from stonewalker.stonemaps import counted, mapped, mapped_round
from stonewalker.walker import Walker, onlooker
from stonewalker.webs import is_web
from tests import samples
from tests.samples import LONE, LOOP, MIXED, SELF_DOOR, TWICE, Bare, Handless, line, ring

# Where no way without a stone tells rooms apart.
ALIKE = [ring(many) for many in range(1, 25)] + [samples.wheel(many, (1, 2)) for many in (4, 7, 12, 24)]
SHEETS = [samples.sheeted_whole(MIXED, many) for many in range(2, 9)]
SHEETS += [samples.sheeted_whole((((0, 1), (0, 0), (0, 2)),), many) for many in (2, 5, 11, 24)]
LINES = [line(many) for many in range(1, 25)]
LITTLE = [web for web in samples.SMALL if samples.most_doors(web) <= 3] + [
    ring(4), ring(5), line(4), line(5), samples.shuffled_web([3] * 5, 1), samples.shuffled_web([3] * 5, 2),
    samples.shuffled_web([3, 2, 3, 2, 3], 3), samples.sheeted_whole((((0, 1), (0, 0), (0, 2)),), 5),
    samples.sheeted_whole((((1, 0), (1, 2)), ((0, 0), (1, 1), (0, 1))), 2)]


def all_of(walker):
    return (walker.here(), walker.in_hand(), walker.steps(), onlooker(walker))


class MappedTest(unittest.TestCase):
    def asked(self, web, room, stones):
        walker = Walker(web, room, stones)
        told = mapped(walker)
        self.assertEqual(told, told_from(web, room))
        self.assertEqual(onlooker(walker), (room, ()))
        self.assertEqual(walker.in_hand(), stones)
        return told

    def test_told_webs(self):
        self.assertEqual(mapped(Walker(LONE, 0, 1)), LONE)
        self.assertEqual(mapped(Walker(SELF_DOOR, 0, 1)), SELF_DOOR)
        self.assertEqual(mapped(Walker(LOOP, 0, 1)), LOOP)
        self.assertEqual(mapped(Walker(TWICE, 1, 1)), TWICE)
        self.assertEqual(mapped(Walker(line(3), 1, 1)), (((1, 0), (2, 0)), ((0, 0),), ((0, 1),)))
        self.assertEqual(mapped(Walker(ring(3), 2, 1)), (((1, 1), (2, 0)), ((2, 1), (0, 0)), ((0, 1), (1, 0))))
        self.assertIs(is_web(mapped(Walker(MIXED, 2, 1))), True)

    def test_from_each_room(self):
        for web in samples.SMALL + samples.NAMED + samples.GREAT:
            for room in range(len(web)):
                self.asked(web, room, 1)

    def test_rooms_alike(self):
        for web in ALIKE + SHEETS:
            for room in {0, len(web) // 2, len(web) - 1}:
                self.asked(web, room, 1)

    def test_rows_of_rooms(self):
        for web in LINES:
            for room in {0, len(web) // 3, len(web) - 1}:
                self.asked(web, room, 1)

    def test_several_stones_in_hand(self):
        for stones in range(1, 5):
            for web in samples.NAMED:
                self.asked(web, len(web) - 1, stones)

    def test_behind_some_steps(self):
        walker = Walker(MIXED, 0, 2)
        for door in (3, 2, 0):
            walker.go(door)
            room = onlooker(walker)[0]
            self.assertEqual(mapped(walker), told_from(MIXED, room))
            self.assertEqual(counted(walker), 3)
            self.assertEqual(onlooker(walker), (room, ()))
            self.assertEqual(walker.in_hand(), 2)

    def test_by_five_methods_alone(self):
        for web in samples.NAMED + SHEETS[:3] + [samples.GREAT_SHEETS]:
            for room in range(len(web)):
                walker = Walker(web, room, 2)
                self.assertEqual(mapped(Bare(walker)), told_from(web, room))
                self.assertEqual(counted(Bare(walker)), len(web))
                self.assertEqual(onlooker(walker), (room, ()))
                self.assertEqual(walker.in_hand(), 2)

    def test_one_stone_is_laid_at_most(self):
        walker = Walker(MIXED, 0, 4)
        bare = Bare(walker)
        least = []

        def go(door):
            least.append(walker.in_hand())
            return walker.go(door)

        bare.go = go
        mapped(bare)
        self.assertEqual(walker.steps(), len(least))
        self.assertGreaterEqual(min(least), 3)

    def test_no_stone_in_hand(self):
        for web in samples.NAMED:
            for learner in (mapped, counted):
                walker = Walker(web, 0, 0)
                before = all_of(walker)
                with self.assertRaises(NoStone):
                    learner(walker)
                with self.assertRaises(NoStone):
                    learner(Handless(walker))
                self.assertEqual(all_of(walker), before)
        # One that lies here isn't in hand.
        walker = Walker(ring(3), 0, 1)
        walker.go(0)
        walker.lay()
        before = all_of(walker)
        for learner in (mapped, counted):
            with self.assertRaises(NoStone):
                learner(walker)
            with self.assertRaises(NoStone):
                learner(Bare(walker))
            self.assertEqual(all_of(walker), before)

    def test_the_same_question_is_told_the_same(self):
        walker = Walker(samples.GREAT_SHEETS, 5, 1)
        self.assertEqual(mapped(walker), mapped(walker))


class CountedTest(unittest.TestCase):
    def test_numbers_of_rooms(self):
        for web in ALIKE + SHEETS + LINES + samples.NAMED + samples.SMALL[::7] + samples.GREAT:
            for room in {0, len(web) - 1}:
                walker = Walker(web, room, 1)
                self.assertEqual(counted(walker), len(web))
                self.assertEqual(onlooker(walker), (room, ()))
                self.assertEqual(walker.in_hand(), 1)


class MappedRoundTest(unittest.TestCase):
    def test_webs_of_at_most_so_many_rooms(self):
        for web in LITTLE:
            for room in range(len(web)):
                for most in range(len(web), 6):
                    walker = Walker(web, room, 1)
                    walker.lay()
                    self.assertEqual(mapped_round(Handless(walker), most), told_from(web, room))
                    self.assertEqual(onlooker(walker), (room, (room,)))
                    self.assertEqual(walker.in_hand(), 0)

    def test_whatever_is_in_hand(self):
        for web in LITTLE[::10]:
            for stones in range(1, 5):
                walker = Walker(web, 0, stones)
                walker.lay()
                self.assertEqual(mapped_round(walker, 5), told_from(web, 0))
                self.assertEqual(onlooker(walker), (0, (0,)))
                self.assertEqual(walker.in_hand(), stones - 1)

    def test_behind_some_steps(self):
        walker = Walker(ring(5), 0, 1)
        walker.go(0)
        walker.lay()
        walker.go(0)
        walker.go(1)
        self.assertEqual(mapped_round(Bare(walker), 5), told_from(ring(5), 1))
        self.assertEqual(onlooker(walker), (1, (1,)))

    def test_no_stone_here(self):
        for web in samples.NAMED:
            for stones in range(3):
                walker = Walker(web, 0, stones)
                before = all_of(walker)
                with self.assertRaises(NoStone):
                    mapped_round(walker, 5)
                self.assertEqual(all_of(walker), before)
        # One lies elsewhere.
        walker = Walker(ring(3), 0, 2)
        walker.lay()
        walker.go(0)
        before = all_of(walker)
        with self.assertRaises(NoStone):
            mapped_round(walker, 3)
        self.assertEqual(all_of(walker), before)


if __name__ == "__main__":
    unittest.main()
