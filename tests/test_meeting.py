import itertools
import random
import unittest

from stonewalker.kinds import kinds
from stonewalker.meeting import is_rule, meet_at, meeting, meeting_rule, shows_never
from stonewalker.pairing import pairing, shows_pairing
from tests import samples
from tests.samples import LONE, LOOP, MIXED, SELF_DOOR, TWICE, TWICE_ACROSS, line, ring

# Two sheets over a row of three rooms that has a door leading to itself at one end of it.
HOOK = (((0, 0), (1, 0)), ((0, 1), (2, 0)), ((1, 1),))
TWO_HOOKS = (((3, 0), (1, 0)), ((0, 1), (2, 0)), ((1, 1),), ((0, 0), (4, 0)), ((3, 1), (5, 0)), ((4, 1),))
UP_TO_EIGHT = [web for web in samples.NAMED if len(web) <= 8] + samples.SMALL[::3] + [
    HOOK, TWO_HOOKS, line(6), line(7), line(8), ring(7), ring(8), samples.wheel(8, (1, 3)),
    samples.sheeted_whole(MIXED, 2), samples.sheeted_whole(samples.shuffled_web([3, 1, 2, 4], 6), 2),
    samples.sheeted_whole((((1, 0), (1, 2)), ((0, 0), (1, 1), (0, 1))), 4)] + [
    samples.shuffled_web([chance.randrange(2, 5) for _ in range(chance.randrange(4, 9))], seed)
    for seed in range(12) for chance in [random.Random(seed)]]


def plain_kinds(web):
    told = []
    for room in range(len(web)):
        kind = samples.plain_kind(web, room)
        if kind not in told:
            told.append(kind)
    return told


def plain_stood(web, room, plan):
    """The rooms behind each step, None where it isn't possible."""
    told = [room]
    for step in plan:
        if step is None:
            told.append(told[-1])
        elif type(step) is int and step in range(len(web[told[-1]])):
            told.append(web[told[-1]][step][0])
        else:
            return None
    return told


def plain_is_rule(web, rule):
    if type(rule) is not tuple or any(type(plan) is not tuple for plan in rule):
        return False
    if len(rule) != len(plain_kinds(web)) or len({len(plan) for plan in rule}) != 1:
        return False
    return all(plain_stood(web, room, plan) is not None
               for kind, plan in zip(plain_kinds(web), rule) for room in kind)


def plain_meet_at(web, a, b, rule):
    plans = {room: plan for kind, plan in zip(plain_kinds(web), rule) for room in kind}
    met = [one == other for one, other in zip(plain_stood(web, a, plans[a]), plain_stood(web, b, plans[b]))]
    return met.index(True) if True in met else None


def chance_rule(web, many, seed):
    """A rule of so many steps, some of them waited."""
    chance = random.Random(seed)
    rule = []
    for kind in plain_kinds(web):
        here, plan = kind[0], []
        for _ in range(many):
            step = chance.choice([None] + list(range(len(web[here]))))
            here = here if step is None else web[here][step][0]
            plan.append(step)
        rule.append(tuple(plan))
    return tuple(rule)


class IsRuleTest(unittest.TestCase):
    def test_told(self):
        self.assertIs(is_rule(LONE, ((),)), True)
        self.assertIs(is_rule(LONE, ((None, None),)), True)
        self.assertIs(is_rule(LONE, ((0,),)), False)
        self.assertIs(is_rule(ring(5), ((0, 1, None, 1),)), True)
        self.assertIs(is_rule(HOOK, ((), (), ())), True)
        self.assertIs(is_rule(HOOK, ((1, 1), (None, 0), (0, None))), True)
        self.assertIs(is_rule(TWO_HOOKS, ((1, 1), (None, 0), (0, None))), True)

    def test_too_few_or_too_many_plans(self):
        for web in (LONE, ring(3), HOOK, TWO_HOOKS, line(4)):
            many = len(plain_kinds(web))
            for count in range(8):
                for long in range(3):
                    self.assertIs(is_rule(web, ((None,) * long,) * count), count == many)

    def test_plans_of_unlike_lengths(self):
        self.assertIs(is_rule(HOOK, ((), (None,), ())), False)
        self.assertIs(is_rule(HOOK, ((None, None), (None, None), (None,))), False)
        self.assertIs(is_rule(HOOK, ((None,), (None, None), (None, None))), False)

    def test_lists_in_a_tuples_place(self):
        self.assertIs(is_rule(HOOK, [(0,), (0,), (0,)]), False)
        self.assertIs(is_rule(HOOK, ([0], (0,), (0,))), False)
        self.assertIs(is_rule(HOOK, ((0,), (0,), [0])), False)
        self.assertIs(is_rule(HOOK, ((0,), (0,), (0,))), True)
        self.assertIs(is_rule(HOOK, ([], [], [])), False)
        self.assertIs(is_rule(HOOK, ((), (), [])), False)

    def test_plans_that_are_none(self):
        for odd in samples.odd_things():
            for rule in [(odd, (), ()), ((), odd, ()), ((), (), odd), (odd, odd, odd), (odd, (0,), (0,)),
                         ((0,), odd, (0,)), (odd, [], ())]:
                self.assertIs(is_rule(HOOK, rule), plain_is_rule(HOOK, rule))
            for rule in [((odd,), (0,), (0,)), ((0,), (odd,), (0,)), ((0,), (0,), (odd,)),
                         ((0, odd), (0, 0), (0, 0)), ((0, 0), (0, 0), (odd, 0))]:
                self.assertIs(is_rule(HOOK, rule), plain_is_rule(HOOK, rule))

    def test_doors_that_rooms_have_not(self):
        self.assertIs(is_rule(HOOK, ((2,), (0,), (0,))), False)
        self.assertIs(is_rule(HOOK, ((0,), (0,), (1,))), False)
        # The room come to on the way hasn't it.
        self.assertIs(is_rule(HOOK, ((1, 1, 1), (0, 0, 0), (0, 0, 0))), False)
        self.assertIs(is_rule(HOOK, ((1, 1, 0), (0, 0, 0), (0, 0, 0))), True)
        self.assertIs(is_rule(TWO_HOOKS, ((0, 1, 1, None, 1), (None,) * 5, (None,) * 5)), False)
        # A plan is for its own kind.
        self.assertIs(is_rule(HOOK, ((0,), (1,), (0,))), True)
        self.assertIs(is_rule(HOOK, ((0,), (0,), (1,))), False)

    def test_no_numbers(self):
        for step in (True, False, -1, -2, "0", "", (), (0,), [0], 10 ** 30):
            self.assertIs(is_rule(ring(3), ((step,),)), False)
            self.assertIs(is_rule(ring(3), ((0, step),)), False)
        self.assertIs(is_rule(ring(3), ((None,),)), True)

    def test_asked_of_anything(self):
        for web in (LONE, SELF_DOOR, ring(3), HOOK, TWO_HOOKS):
            for odd in samples.odd_things():
                self.assertIs(is_rule(web, odd), plain_is_rule(web, odd))

    def test_spoilt_rules(self):
        told = {True: 0, False: 0}
        for place, web in enumerate(UP_TO_EIGHT):
            for seed in range(25):
                rule = chance_rule(web, seed % 6, seed + place)
                self.assertIs(is_rule(web, rule), True)
                spoilt = samples.spoilt(rule, seed * 7 + place)
                wanted = plain_is_rule(web, spoilt)
                told[wanted] += 1
                self.assertIs(is_rule(web, spoilt), wanted)
        self.assertGreater(min(told.values()), 50)


class MeetAtTest(unittest.TestCase):
    def test_told(self):
        rule = ((1, 1), (None, None), (None, None))
        self.assertEqual(meet_at(HOOK, 0, 1, rule), 1)
        self.assertEqual(meet_at(HOOK, 1, 0, rule), 1)
        self.assertEqual(meet_at(HOOK, 0, 2, rule), 2)
        self.assertIsNone(meet_at(HOOK, 1, 2, rule))
        self.assertIsNone(meet_at(HOOK, 0, 1, ((), (), ())))

    def test_nought_where_both_are_one(self):
        for web in UP_TO_EIGHT[:20]:
            for room in range(len(web)):
                self.assertEqual(meet_at(web, room, room, chance_rule(web, room, room)), 0)

    def test_passing_one_another_in_a_door(self):
        # Both go through the tie of rooms 0 and 1 in one step.
        self.assertIsNone(meet_at(HOOK, 0, 1, ((1,), (0,), (0,))))
        self.assertIsNone(meet_at(HOOK, 0, 1, ((1, 0), (0, 1), (0, 1))))
        self.assertEqual(meet_at(HOOK, 0, 1, ((1, None), (0, 1), (0, 1))), 2)

    def test_steps_that_are_waited(self):
        rule = ((None, None, 1), (None, None, None), (None, 0, None))
        self.assertEqual(meet_at(HOOK, 0, 1, rule), 3)
        self.assertEqual(meet_at(HOOK, 1, 2, rule), 2)
        self.assertEqual(meet_at(HOOK, 0, 2, rule), 3)

    def test_the_least_of_several(self):
        self.assertEqual(meet_at(HOOK, 0, 1, ((1, 0, 1, None), (None,) * 4, (0,) * 4)), 1)

    def test_by_chance(self):
        told = {}
        for place, web in enumerate(UP_TO_EIGHT):
            for seed in range(4):
                rule = chance_rule(web, 3 * seed + 1, seed + place)
                for a, b in itertools.product(range(len(web)), repeat=2):
                    wanted = plain_meet_at(web, a, b, rule)
                    told[wanted] = told.get(wanted, 0) + 1
                    self.assertEqual(meet_at(web, a, b, rule), wanted)
        self.assertGreater(len(told), 6)

    def test_alike_rooms_never(self):
        for web in (ring(5), TWICE, TWO_HOOKS):
            for seed in range(5):
                rule = chance_rule(web, 20, seed)
                for kind in plain_kinds(web):
                    for a, b in itertools.combinations(kind, 2):
                        self.assertIsNone(meet_at(web, a, b, rule))


class MeetingRuleTest(unittest.TestCase):
    def test_any_two_of_unlike_kinds_meet(self):
        couples = 0
        for web in UP_TO_EIGHT:
            rule = meeting_rule(web)
            self.assertIs(plain_is_rule(web, rule), True)
            self.assertIs(is_rule(web, rule), True)
            for a, b in itertools.product(range(len(web)), repeat=2):
                if b not in samples.plain_kind(web, a):
                    couples += 1
                    self.assertIsNotNone(plain_meet_at(web, a, b, rule))
                    self.assertEqual(meet_at(web, a, b, rule), plain_meet_at(web, a, b, rule))
        self.assertGreater(couples, 1000)

    def test_of_one_kind(self):
        for web in (LONE, SELF_DOOR, LOOP, TWICE, ring(8)):
            self.assertEqual(len(meeting_rule(web)), 1)
            self.assertIs(is_rule(web, meeting_rule(web)), True)

    def test_of_as_many_kinds_as_rooms(self):
        for web in (HOOK, samples.shuffled_web([1, 2, 3, 4, 5], 1), samples.shuffled_web([2, 3, 3, 4, 5, 3, 2, 4], 1)):
            self.assertEqual(len(plain_kinds(web)), len(web))
            rule = meeting_rule(web)
            self.assertEqual(len(rule), len(web))
            for a, b in itertools.combinations(range(len(web)), 2):
                self.assertIsNotNone(plain_meet_at(web, a, b, rule))

    def test_the_same_question_is_told_the_same(self):
        for web in UP_TO_EIGHT[::5]:
            self.assertEqual(meeting_rule(web), meeting_rule(web))


class MeetingTest(unittest.TestCase):
    def test_told(self):
        self.assertEqual(meeting(LONE, 0, 0), ("step", 0))
        self.assertEqual(meeting(ring(3), 1, 1), ("step", 0))
        self.assertEqual(meeting(ring(3), 0, 1), ("never", [(0, 1), (1, 2), (2, 0)]))
        self.assertEqual(meeting(TWICE, 0, 1), ("never", [(0, 1), (1, 0)]))
        self.assertEqual(meeting(TWO_HOOKS, 4, 1), ("never", [(0, 3), (1, 4), (2, 5), (3, 0), (4, 1), (5, 2)]))
        self.assertEqual(meeting(SELF_DOOR, 0, 0), ("step", 0))

    def test_each_two_rooms(self):
        told = {"step": 0, "never": 0}
        for web in UP_TO_EIGHT:
            for a, b in itertools.product(range(len(web)), repeat=2):
                found = meeting(web, a, b)
                self.assertIs(type(found), tuple)
                told[found[0]] += 1
                if a == b or b not in samples.plain_kind(web, a):
                    self.assertEqual(found, ("step", meet_at(web, a, b, meeting_rule(web))))
                    self.assertIs(type(found[1]), int)
                    self.assertEqual(found[1] == 0, a == b)
                else:
                    self.assertEqual(found, ("never", pairing(web, a, web, b)))
                    self.assertTrue(all(one != other for one, other in found[1]))
                    self.assertIs(shows_never(web, a, b, found[1]), True)
        self.assertGreater(min(told.values()), 200)

    def test_the_told_list_is_the_askers_own(self):
        one, other = meeting(ring(3), 0, 1), meeting(ring(3), 0, 1)
        one[1].clear()
        self.assertEqual(other, ("never", [(0, 1), (1, 2), (2, 0)]))
        self.assertEqual(meeting(ring(3), 0, 1), other)


class ShowsNeverTest(unittest.TestCase):
    def test_told(self):
        self.assertIs(shows_never(ring(3), 0, 1, [(0, 1), (1, 2), (2, 0)]), True)
        self.assertIs(shows_never(ring(3), 0, 1, ([2, 0], [0, 1], [1, 2])), True)
        self.assertIs(shows_never(ring(3), 0, 1, [(0, 1), (1, 2)]), False)
        self.assertIs(shows_never(ring(3), 0, 1, [(0, 2), (1, 0), (2, 1)]), False)
        self.assertIs(shows_never(ring(3), 0, 1, []), False)

    def test_a_pair_of_one_room_twice(self):
        same = [(room, room) for room in range(3)]
        never = [(0, 1), (1, 2), (2, 0)]
        self.assertIs(shows_pairing(ring(3), 0, ring(3), 1, never + same), True)
        self.assertIs(shows_never(ring(3), 0, 1, never + same), False)
        self.assertIs(shows_never(ring(3), 0, 1, tuple(same) + tuple(never)), False)
        self.assertIs(shows_pairing(ring(3), 1, ring(3), 1, same), True)
        self.assertIs(shows_never(ring(3), 1, 1, same), False)
        self.assertIs(shows_never(ring(3), 1, 1, [[room, room] for room in range(3)]), False)
        # More than are come to, none of one room twice.
        self.assertIs(shows_never(ring(3), 0, 1, never + [(0, 2), (1, 0), (2, 1)]), True)

    def test_asked_of_anything(self):
        for odd in samples.odd_things():
            for web, a, b in [(LONE, 0, 0), (ring(3), 0, 1), (TWO_HOOKS, 0, 3), (HOOK, 0, 1)]:
                self.assertIs(shows_never(web, a, b, odd), False)
                self.assertIs(shows_never(web, a, b, [(a, b), odd]), False)
                self.assertIs(shows_never(web, a, b, [(a, odd)]), False)

    def test_spoilt_pairs(self):
        told = {True: 0, False: 0}
        webs = [ring(2), ring(3), TWICE, TWICE_ACROSS, TWO_HOOKS, samples.sheeted_whole(MIXED, 2)]
        for place, web in enumerate(webs):
            for kind in kinds(web):
                for a, b in itertools.product(kind, repeat=2):
                    pairs = pairing(web, a, web, b)
                    for seed in range(60):
                        spoilt = samples.spoilt(pairs, seed + place)
                        wanted = shows_pairing(web, a, web, b, spoilt) and all(one != other for one, other in spoilt)
                        told[wanted] += 1
                        self.assertIs(shows_never(web, a, b, spoilt), wanted)
        self.assertGreater(min(told.values()), 20)


if __name__ == "__main__":
    unittest.main()
