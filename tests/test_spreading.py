import itertools
import random
import unittest

from stonewalker.errors import NoWeb
from stonewalker.folding import folded, is_fold
from stonewalker.numbering import renumbered
from stonewalker.spreading import spread
from stonewalker.webs import is_web, ties
from tests import samples
from tests.samples import LONE, LOOP, MIXED, SELF_DOOR, TWICE, line, ring


def own_back(turn):
    return all(turn[place] == sheet for sheet, place in enumerate(turn))


def plain_spread(web, many, turns):
    """The web of sheets by the words of the point alone; None where it is refused."""
    leads = {}
    for ((r, i), (s, j)), turn in zip(ties(web), turns):
        if (r, i) == (s, j) and not own_back(turn):
            return None
        for k in range(many):
            leads[r + k * len(web), i] = (s + turn[k] * len(web), j)
            leads[s + k * len(web), j] = (r + turn.index(k) * len(web), i)
    told = tuple(tuple(leads[n, door] for door in range(len(web[n % len(web)]))) for n in range(many * len(web)))
    return told if samples.plain_is_web(told) else None


def asked(web, many, turns):
    """What is told, None where it is refused with NoWeb."""
    try:
        return spread(web, many, turns)
    except NoWeb:
        return None


def chance_turns(web, many, seed):
    chance = random.Random(seed)
    return [tuple(chance.sample(range(many), many)) for tie in ties(web)]


def turned_well(web, many, seed):
    """Turns by chance, but a door that leads to itself gets one that is its own back."""
    turns = chance_turns(web, many, seed)
    for place, (one, other) in enumerate(ties(web)):
        if one == other:
            turns[place] = tuple(range(many)) if seed % 2 else tuple(range(many))[::-1]
    return turns


class SpreadTest(unittest.TestCase):
    def test_told_webs(self):
        self.assertEqual(spread(LOOP, 3, [(1, 2, 0)]), ring(3))
        self.assertEqual(spread(ring(3), 2, [(1, 0), (0, 1), (0, 1)]),
                         renumbered(ring(6), (0, 4, 5, 3, 1, 2)))
        self.assertEqual(spread(SELF_DOOR, 2, [(1, 0)]), line(2))
        self.assertEqual(spread(LOOP, 2, [(1, 0)]), samples.TWICE_ACROSS)
        self.assertEqual(spread((((0, 0), (0, 1)),), 2, [(1, 0), (1, 0)]), TWICE)
        self.assertEqual(spread((((0, 0), (0, 1)),), 2, [(0, 1), (1, 0)]), (((0, 0), (1, 1)), ((1, 0), (0, 1))))

    def test_a_turn_goes_from_the_first_end_to_the_second(self):
        told = spread(MIXED, 3, [(0, 2, 1), (1, 2, 0), (2, 0, 1), (0, 1, 2), (1, 0, 2), (0, 1, 2)])
        self.assertEqual(ties(MIXED)[1], ((0, 1), (0, 2)))
        self.assertEqual([told[sheet * 3][1] for sheet in range(3)], [(3, 2), (6, 2), (0, 2)])
        self.assertEqual([told[sheet * 3][2] for sheet in range(3)], [(6, 1), (0, 1), (3, 1)])
        self.assertEqual(ties(MIXED)[2], ((0, 3), (1, 1)))
        self.assertEqual([told[sheet * 3][3] for sheet in range(3)], [(7, 1), (1, 1), (4, 1)])
        self.assertEqual([told[sheet * 3 + 1][1] for sheet in range(3)], [(3, 3), (6, 3), (0, 3)])
        self.assertEqual([told[sheet * 3][0] for sheet in range(3)], [(0, 0), (6, 0), (3, 0)])

    def test_one_sheet_is_the_web(self):
        for web in samples.NAMED + samples.GREAT + samples.SMALL[::9]:
            self.assertEqual(spread(web, 1, [(0,)] * len(ties(web))), web)

    def test_all_turns_of_small_webs(self):
        told = 0
        refused = 0
        for web in [LONE, SELF_DOOR, LOOP, TWICE, line(2), line(3), ring(2), ring(3), (((0, 0), (0, 2), (0, 1)),)]:
            for many in range(1, 5):
                turned = list(itertools.permutations(range(many)))
                if len(turned) ** len(ties(web)) > 700:
                    continue
                for turns in itertools.product(turned, repeat=len(ties(web))):
                    wanted = plain_spread(web, many, turns)
                    self.assertEqual(asked(web, many, list(turns)), wanted)
                    told += wanted is not None
                    refused += wanted is None
        self.assertGreater(told, 200)
        self.assertGreater(refused, 200)

    def test_turns_by_chance(self):
        told = 0
        for web in samples.NAMED + samples.SMALL[::5]:
            for many in range(1, 7):
                if many * len(web) > 24:
                    continue
                for seed in range(3):
                    for turns in [chance_turns(web, many, seed), turned_well(web, many, seed)]:
                        wanted = plain_spread(web, many, turns)
                        self.assertEqual(asked(web, many, turns), wanted)
                        told += wanted is not None
        self.assertGreater(told, 500)

    def test_the_told_web_folds(self):
        webs = [LOOP, TWICE, MIXED, ring(4), line(4), samples.wheel(4, (1, 2)), samples.shuffled_web([6] * 4, 1)]
        for web in webs:
            for many in range(1, 7):
                told = None
                for seed in range(60):
                    told = told or asked(web, many, turned_well(web, many, seed))
                if told is None:
                    # Without a ring among its ties a web has no web of several sheets.
                    self.assertIn(web, [line(4)])
                    continue
                self.assertIs(is_web(told), True)
                self.assertEqual(len(told), many * len(web))
                numbers = tuple(room % len(web) for room in range(len(told)))
                self.assertIs(is_fold(told, web, numbers), True)
                self.assertEqual(sorted(map(len, folded(told))), sorted(map(len, folded(web))))

    def test_to_the_bounds(self):
        web = samples.shuffled_web([6] * 4, 1)
        turns = turned_well(web, 6, 5)
        told = spread(web, 6, turns)
        self.assertEqual(len(told), 24)
        self.assertEqual(told, plain_spread(web, 6, turns))
        web = samples.GREAT_APART
        self.assertEqual(spread(web, 1, [(0,)] * 72), web)
        web = samples.shuffled_web([6] * 12, 2)
        self.assertEqual(len(spread(web, 2, [(1, 0)] + [(0, 1)] * 35)), 24)

    def test_turns_that_are_not_their_own_back(self):
        with self.assertRaises(NoWeb):
            spread(SELF_DOOR, 3, [(1, 2, 0)])
        with self.assertRaises(NoWeb):
            spread((((0, 0), (0, 2), (0, 1)),), 3, [(1, 2, 0), (1, 2, 0)])
        # The one that goes thrice round among others that are their own back.
        with self.assertRaises(NoWeb):
            spread((((0, 0), (0, 2), (0, 1)),), 5, [(1, 0, 3, 4, 2), (1, 2, 3, 4, 0)])
        self.assertEqual(len(spread((((0, 0), (0, 2), (0, 1)),), 5, [(1, 0, 3, 2, 4), (1, 2, 3, 4, 0)])), 5)
        # Of two doors that lead to one another a turn needn't be.
        self.assertEqual(len(spread(LOOP, 6, [(1, 2, 3, 4, 5, 0)])), 6)

    def test_where_not_each_room_is_come_to(self):
        for web, many, turns in [(LONE, 2, []), (LONE, 6, []), (SELF_DOOR, 2, [(0, 1)]), (LOOP, 2, [(0, 1)]),
                                 (LOOP, 4, [(1, 0, 3, 2)]), (line(3), 2, [(1, 0), (1, 0)]),
                                 (ring(3), 2, [(1, 0), (1, 0), (0, 1)]), (SELF_DOOR, 4, [(1, 0, 3, 2)])]:
            with self.assertRaises(NoWeb):
                spread(web, many, turns)
        self.assertEqual(spread(LONE, 1, []), LONE)

    def test_what_is_handed_in_stays(self):
        turns = [(0, 1), (1, 0), (0, 1)]
        told = spread(ring(3), 2, turns)
        self.assertEqual(turns, [(0, 1), (1, 0), (0, 1)])
        self.assertEqual(spread(ring(3), 2, turns), told)
        turns[0] = (1, 0)
        self.assertEqual(told, spread(ring(3), 2, [(0, 1), (1, 0), (0, 1)]))

    def test_all_that_is_told_is_tuples(self):
        told = spread(ring(3), 2, [(0, 1), (1, 0), (0, 1)])
        self.assertIs(type(told), tuple)
        self.assertEqual({type(ends) for ends in told}, {tuple})
        self.assertEqual({type(end) for ends in told for end in ends}, {tuple})


if __name__ == "__main__":
    unittest.main()
