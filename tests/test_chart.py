import random
import unittest

from stonewalker.chart import Chart
from stonewalker.errors import Clash, NoDoor, NoMark, NotWhole, WebError
from stonewalker.webs import is_web
from tests import samples
from tests.samples import LONE, LOOP, MIXED, SELF_DOOR, TWICE, TWICE_ACROSS, line, ring

LETTERS = "abcdefghijklmnopqrstuvwxyz"


def all_of(chart):
    return (chart.here(), chart.rooms(), chart.sketch(), chart.open_doors())


def more_of(chart):
    """Whatever a chart can be asked of all its rooms."""
    try:
        whole = chart.whole()
    except NotWhole:
        whole = None
    return all_of(chart) + (chart.next_way(), [chart.way_by(mark) for mark, doors in chart.rooms()], whole)


class PlainChart:
    """A second chart, by the words of the points alone: ties are kept as sets of two ends (mark, door)."""

    def __init__(self, mark, doors):
        self.known, self.standing, self.tied = {mark: doors}, mark, []

    def other(self, end):
        """The ends to which an end is known to lead: one or none."""
        return [(set(tie) - {end} or {end}).pop() for tie in self.tied if end in tie]

    def due(self, door, came, mark, doors):
        """The refusal that is due, None where none is."""
        if door not in range(self.known[self.standing]) or came not in range(doors):
            return (NoDoor, None)
        if self.known.get(mark, doors) != doors:
            return (Clash, "doors")
        if self.other((self.standing, door)) not in ([], [(mark, came)]):
            return (Clash, "end")
        if self.other((mark, came)) not in ([], [(self.standing, door)]):
            return (Clash, "taken")
        return None

    def went(self, door, came, mark, doors):
        self.known[mark] = doors
        self.tied.append({(self.standing, door), (mark, came)})
        self.tied = [tie for place, tie in enumerate(self.tied) if tie not in self.tied[:place]]
        self.standing = mark

    def forget(self, mark, door):
        self.tied = [tie for tie in self.tied if (mark, door) not in tie]

    def all_of(self):
        marks = list(self.known)
        sketch = []
        for mark in marks:
            ends = [self.other((mark, door)) for door in range(self.known[mark])]
            sketch.append(tuple((marks.index(end[0][0]), end[0][1]) if end else None for end in ends))
        left = [(room, door) for room, ends in enumerate(sketch) for door, end in enumerate(ends) if end is None]
        return (self.standing, tuple(self.known.items()), tuple(sketch), left)

    def leads(self, way):
        """The mark to which the way leads by known ties, None where it isn't possible."""
        mark = self.standing
        for door in way:
            end = self.other((mark, door))
            if not end:
                return None
            mark = end[0][0]
        return mark

    def ways(self):
        """For each mark that is come to the least way, among all ways of known ties."""
        told, level = {self.standing: ()}, [()]
        for _ in self.known:
            level = [way + (door,) for way in level for door in range(self.known[self.leads(way)])
                     if self.leads(way + (door,)) is not None]
            for way in sorted(level, reverse=True):
                mark = self.leads(way)
                if mark not in told or len(told[mark]) == len(way):
                    told[mark] = way
            # Of ways to one room the least is enough.
            level = sorted(way for way in level if told[self.leads(way)] == way)
        return told

    def next_way(self):
        ways = self.ways()
        found = [ways[mark] + (door,) for mark in ways for door in range(self.known[mark])
                 if not self.other((mark, door))]
        return min(found, key=lambda way: (len(way), way), default=None)


class ChartCase(unittest.TestCase):
    def refused(self, chart, error, why, act, *given):
        before = more_of(chart)
        with self.assertRaises(error) as found:
            act(*given)
        self.assertIs(type(found.exception), error)
        self.assertEqual(error.__bases__, (WebError,))
        if why is not None:
            self.assertEqual(found.exception.why, why)
        self.assertEqual(more_of(chart), before)

    def grown(self, web, first=0):
        """A chart gone through all doors of the web, by next_way; marks are letters by the web's numbers."""
        chart = Chart(LETTERS[first], len(web[first]))
        room = first
        way = chart.next_way()
        while way is not None:
            for door in way:
                room, came = web[room][door][0], web[room][door][1]
                chart.went(door, came, LETTERS[room], len(web[room]))
            self.assertEqual(chart.here(), LETTERS[room])
            way = chart.next_way()
        return chart


class RoomsTest(ChartCase):
    def test_a_room_with_no_doors(self):
        chart = Chart("a", 0)
        self.assertEqual(all_of(chart), ("a", (("a", 0),), ((),), []))
        self.assertIsNone(chart.next_way())
        self.assertEqual(chart.way_by("a"), ())
        self.assertEqual(chart.whole(), LONE)
        self.refused(chart, NoDoor, None, chart.went, 0, 0, "a", 0)
        self.refused(chart, NoDoor, None, chart.went, 0, 0, "b", 1)
        self.refused(chart, NoDoor, None, chart.forget, "a", 0)

    def test_a_first_room(self):
        chart = Chart("attic", 3)
        self.assertEqual(all_of(chart), ("attic", (("attic", 3),), ((None, None, None),), [(0, 0), (0, 1), (0, 2)]))
        self.assertIs(type(chart.rooms()), tuple)
        self.assertIs(type(chart.sketch()), tuple)
        self.assertIs(type(chart.open_doors()), list)
        self.assertEqual(chart.next_way(), (0,))
        self.assertEqual(chart.way_by("attic"), ())

    def test_to_new_rooms_and_back(self):
        chart = Chart("hall", 2)
        chart.went(1, 0, "attic", 3)
        self.assertEqual(all_of(chart), ("attic", (("hall", 2), ("attic", 3)), ((None, (1, 0)), ((0, 1), None, None)),
                                         [(0, 0), (1, 1), (1, 2)]))
        chart.went(0, 1, "hall", 2)
        self.assertEqual(all_of(chart), ("hall", (("hall", 2), ("attic", 3)), ((None, (1, 0)), ((0, 1), None, None)),
                                         [(0, 0), (1, 1), (1, 2)]))
        # By a new tie to a known room.
        chart.went(0, 2, "attic", 3)
        self.assertEqual(all_of(chart), ("attic", (("hall", 2), ("attic", 3)),
                                         (((1, 2), (1, 0)), ((0, 1), None, (0, 0))), [(1, 1)]))
        chart.went(1, 0, "cellar", 1)
        self.assertEqual(chart.rooms(), (("hall", 2), ("attic", 3), ("cellar", 1)))
        self.assertEqual(chart.whole(), (((1, 2), (1, 0)), ((0, 1), (2, 0), (0, 0)), ((1, 1),)))

    def test_rooms_stand_as_they_came(self):
        chart = Chart("z", 2)
        chart.went(0, 0, "m", 1)
        chart.went(0, 0, "z", 2)
        chart.went(1, 0, "a", 1)
        self.assertEqual(chart.rooms(), (("z", 2), ("m", 1), ("a", 1)))
        self.assertEqual(chart.sketch(), (((1, 0), (2, 0)), ((0, 0),), ((0, 1),)))

    def test_doors_of_one_room(self):
        chart = Chart("a", 3)
        chart.went(1, 1, "a", 3)
        self.assertEqual(all_of(chart), ("a", (("a", 3),), ((None, (0, 1), None),), [(0, 0), (0, 2)]))
        chart.went(2, 0, "a", 3)
        self.assertEqual(all_of(chart), ("a", (("a", 3),), (((0, 2), (0, 1), (0, 0)),), []))
        self.assertEqual(chart.whole(), (((0, 2), (0, 1), (0, 0)),))

    def test_a_step_once_more(self):
        chart = Chart("a", 2)
        for _ in range(3):
            chart.went(0, 0, "b", 2)
            known = all_of(chart)
            chart.went(0, 0, "a", 2)
            chart.went(0, 0, "b", 2)
            self.assertEqual(all_of(chart), known)
            chart.went(1, 1, "b", 2)
            chart.went(1, 1, "b", 2)
            chart.went(0, 0, "a", 2)
        self.assertEqual(chart.sketch(), (((1, 0), None), ((0, 0), (1, 1))))


class RefusedTest(ChartCase):
    def setUp(self):
        # a.0-b.0 and b.1-b.1 are known; a.1, a.2 and b.2 are open.
        self.chart = Chart("a", 3)
        self.chart.went(0, 0, "b", 3)
        self.chart.went(1, 1, "b", 3)
        self.chart.went(0, 0, "a", 3)

    def test_doors_that_rooms_have_not(self):
        chart = self.chart
        for door in (3, 4, 99, -1):
            self.refused(chart, NoDoor, None, chart.went, door, 0, "b", 3)
            self.refused(chart, NoDoor, None, chart.went, door, 0, "new", 3)
        for came, doors in [(3, 3), (4, 3), (1, 1), (0, 0), (6, 5), (-1, 3)]:
            self.refused(chart, NoDoor, None, chart.went, 1, came, "b", doors)
            self.refused(chart, NoDoor, None, chart.went, 1, came, "new", doors)

    def test_no_door_goes_ahead_of_clash(self):
        chart = self.chart
        # Each time a Clash would be due as well.
        self.refused(chart, NoDoor, None, chart.went, 3, 0, "b", 2)
        self.refused(chart, NoDoor, None, chart.went, 1, 2, "b", 2)
        self.refused(chart, NoDoor, None, chart.went, 0, 3, "b", 3)
        self.refused(chart, NoDoor, None, chart.went, 0, 1, "new", 1)
        self.refused(chart, NoDoor, None, chart.went, 3, 1, "b", 3)

    def test_another_number_of_doors(self):
        chart = self.chart
        for doors in (1, 2, 4, 5):
            self.refused(chart, Clash, "doors", chart.went, 1, 0, "b", doors)
            self.refused(chart, Clash, "doors", chart.went, 1, 0, "a", doors)
        # Also where the tie is known.
        self.refused(chart, Clash, "doors", chart.went, 0, 0, "b", 4)

    def test_another_end(self):
        chart = self.chart
        self.refused(chart, Clash, "end", chart.went, 0, 2, "b", 3)
        self.refused(chart, Clash, "end", chart.went, 0, 0, "new", 3)
        self.refused(chart, Clash, "end", chart.went, 0, 0, "a", 3)
        self.refused(chart, Clash, "end", chart.went, 0, 1, "a", 3)
        chart.went(0, 0, "b", 3)
        self.refused(chart, Clash, "end", chart.went, 1, 2, "b", 3)
        self.refused(chart, Clash, "end", chart.went, 1, 1, "a", 3)

    def test_a_taken_end(self):
        chart = self.chart
        self.refused(chart, Clash, "taken", chart.went, 1, 0, "b", 3)
        self.refused(chart, Clash, "taken", chart.went, 1, 1, "b", 3)
        self.refused(chart, Clash, "taken", chart.went, 1, 0, "a", 3)
        chart.went(0, 0, "b", 3)
        self.refused(chart, Clash, "taken", chart.went, 2, 1, "b", 3)
        self.refused(chart, Clash, "taken", chart.went, 2, 0, "b", 3)
        self.refused(chart, Clash, "taken", chart.went, 2, 0, "a", 3)

    def test_which_clash_goes_first(self):
        chart = self.chart
        self.refused(chart, Clash, "doors", chart.went, 0, 1, "b", 2)
        self.refused(chart, Clash, "doors", chart.went, 1, 1, "b", 2)
        self.refused(chart, Clash, "end", chart.went, 0, 1, "b", 3)
        chart.went(0, 0, "b", 3)
        self.refused(chart, Clash, "doors", chart.went, 1, 0, "a", 2)
        self.refused(chart, Clash, "end", chart.went, 1, 0, "a", 3)
        self.refused(chart, Clash, "end", chart.went, 0, 1, "b", 3)

    def test_all_goes_on_behind_refusals(self):
        chart = self.chart
        self.refused(chart, Clash, "doors", chart.went, 1, 0, "b", 2)
        self.refused(chart, Clash, "end", chart.went, 0, 0, "new", 3)
        self.refused(chart, NoDoor, None, chart.went, 3, 0, "newer", 3)
        chart.went(1, 0, "new", 1)
        self.assertEqual(chart.rooms(), (("a", 3), ("b", 3), ("new", 1)))
        self.assertEqual(chart.sketch(), (((1, 0), (2, 0), None), ((0, 0), (1, 1), None), ((0, 1),)))


class WaysTest(ChartCase):
    def test_from_a_room_with_an_open_door(self):
        chart = Chart("a", 4)
        chart.went(0, 0, "a", 4)
        self.assertEqual(chart.next_way(), (1,))
        chart.went(1, 3, "a", 4)
        self.assertEqual(chart.next_way(), (2,))
        chart.went(2, 0, "b", 2)
        self.assertEqual(chart.next_way(), (1,))

    def test_the_fewest_doors_then_the_first(self):
        # From a both b (by door 0) and c (by door 1) have an open door, c a lesser one.
        chart = Chart("a", 2)
        chart.went(0, 0, "b", 2)
        chart.went(0, 0, "a", 2)
        chart.went(1, 1, "c", 2)
        chart.went(1, 1, "a", 2)
        self.assertEqual(chart.next_way(), (0, 1))
        chart.went(0, 0, "b", 2)
        chart.went(1, 0, "d", 2)
        chart.went(0, 1, "b", 2)
        chart.went(0, 0, "a", 2)
        # d is further than c, and behind a lesser door.
        self.assertEqual(chart.next_way(), (1, 0))
        self.assertEqual(chart.way_by("d"), (0, 1))
        chart.went(1, 1, "c", 2)
        chart.went(0, 1, "d", 2)
        chart.went(0, 1, "b", 2)
        self.assertIsNone(chart.next_way())
        self.assertEqual(chart.way_by("c"), (0, 1))
        chart.went(0, 0, "a", 2)
        # Two ways of two doors lead to d.
        self.assertEqual(chart.way_by("d"), (0, 1))
        self.assertEqual(chart.way_by("a"), ())
        self.assertEqual(chart.whole(), (((1, 0), (2, 1)), ((0, 0), (3, 0)), ((3, 1), (0, 1)), ((1, 1), (2, 0))))

    def test_no_mark(self):
        chart = Chart("a", 2)
        chart.went(0, 0, "b", 1)
        self.refused(chart, NoMark, None, chart.way_by, "c")
        self.refused(chart, NoMark, None, chart.way_by, "ab")
        self.refused(chart, NoMark, None, chart.forget, "c", 0)
        # Ahead of NoDoor.
        self.refused(chart, NoMark, None, chart.forget, "c", 7)
        self.refused(chart, NoDoor, None, chart.forget, "b", 1)
        self.refused(chart, NoDoor, None, chart.forget, "a", 2)
        self.refused(chart, NoDoor, None, chart.forget, "a", -1)

    def test_webs_grown_by_next_way(self):
        for web in samples.NAMED + samples.SMALL[::5] + samples.GREAT + [TWICE, TWICE_ACROSS, SELF_DOOR]:
            first = len(web) // 2
            chart = self.grown(web, first)
            self.assertEqual(chart.open_doors(), [])
            self.assertIs(is_web(chart.whole()), True)
            order = [LETTERS.index(mark) for mark, doors in chart.rooms()]
            self.assertEqual(sorted(order), list(range(len(web))))
            wanted = tuple(tuple((order.index(end[0]), end[1]) for end in web[room]) for room in order)
            self.assertEqual(chart.whole(), wanted)
            self.assertEqual(chart.sketch(), wanted)


class ForgetTest(ChartCase):
    def test_both_ends(self):
        for mark, door in [("a", 0), ("b", 1)]:
            chart = self.grown(TWICE_ACROSS)
            self.assertEqual(chart.whole(), TWICE_ACROSS)
            chart.forget(mark, door)
            self.assertEqual(chart.sketch(), ((None, (1, 0)), ((0, 1), None)))
            self.assertEqual(chart.open_doors(), [(0, 0), (1, 1)])
            self.refused(chart, NotWhole, None, chart.whole)

    def test_doors_of_one_room(self):
        chart = self.grown(MIXED)
        chart.forget("a", 0)
        self.assertEqual(chart.open_doors(), [(0, 0)])
        chart.forget("a", 2)
        self.assertEqual(chart.open_doors(), [(0, 0), (0, 1), (0, 2)])
        self.assertEqual(chart.sketch()[1:], MIXED[1:])

    def test_a_door_that_was_not_known(self):
        chart = Chart("a", 2)
        before = more_of(chart)
        chart.forget("a", 1)
        self.assertEqual(more_of(chart), before)
        chart.went(0, 0, "b", 2)
        before = more_of(chart)
        chart.forget("a", 1)
        chart.forget("b", 1)
        self.assertEqual(more_of(chart), before)
        chart.forget("b", 0)
        before = more_of(chart)
        chart.forget("b", 0)
        chart.forget("a", 0)
        self.assertEqual(more_of(chart), before)

    def test_rooms_and_standing_stay(self):
        chart = self.grown(line(3))
        chart.forget("c", 0)
        self.assertEqual(chart.here(), "c")
        self.assertEqual(chart.rooms(), (("a", 1), ("b", 2), ("c", 1)))

    def test_tied_otherwise_behind_it(self):
        chart = self.grown(TWICE)
        self.refused(chart, Clash, "end", chart.went, 0, 1, "ab"[chart.here() == "a"], 2)
        chart.forget("a", 0)
        chart.forget("a", 1)
        here, there = (chart.here(), "ab"[chart.here() == "a"])
        chart.went(0, 1, there, 2)
        chart.went(0, 1, here, 2)
        self.assertEqual(chart.whole(), TWICE_ACROSS)

    def test_parts_that_are_not_come_to(self):
        chart = self.grown(line(5))
        self.assertEqual(chart.here(), "e")
        chart.forget("c", 1)
        self.assertEqual(chart.open_doors(), [(2, 1), (3, 0)])
        self.assertEqual([chart.way_by(mark) for mark in "abcde"], [None, None, None, (0,), ()])
        self.assertEqual(chart.next_way(), (0, 0))
        chart.went(0, 1, "d", 2)
        self.assertEqual(chart.next_way(), (0,))
        # Tied otherwise: all that is come to has no open door, the other part has one.
        chart.went(0, 0, "d", 2)
        self.assertEqual(chart.open_doors(), [(2, 1)])
        self.assertIsNone(chart.next_way())
        self.assertIsNone(chart.way_by("a"))
        self.assertEqual(chart.way_by("e"), (1,))
        self.refused(chart, NotWhole, None, chart.whole)
        self.refused(chart, NoMark, None, chart.way_by, "f")
        chart.forget("d", 0)
        chart.went(0, 1, "c", 2)
        self.assertEqual(chart.way_by("a"), (0, 0))
        self.assertEqual(chart.whole(), line(5))


class WholeTest(ChartCase):
    def test_refused_where_a_door_is_open(self):
        chart = Chart("a", 1)
        self.refused(chart, NotWhole, None, chart.whole)
        chart.went(0, 0, "b", 2)
        self.refused(chart, NotWhole, None, chart.whole)
        chart.went(1, 1, "b", 2)
        self.assertEqual(chart.whole(), (((1, 0),), ((0, 0), (1, 1))))

    def test_told(self):
        for web in (SELF_DOOR, LOOP, TWICE, TWICE_ACROSS, line(4)):
            self.assertEqual(self.grown(web).whole(), web)


class OverAllTest(ChartCase):
    def test_by_chance_beside_a_plain_chart(self):
        told = {}
        for seed in range(150):
            chance = random.Random(seed)
            marks = LETTERS[:chance.randrange(2, 6)]
            most = chance.randrange(2, 5)
            counts = {mark: chance.randrange(1, most) for mark in marks}
            chart, plain = Chart("a", counts["a"]), PlainChart("a", counts["a"])
            for _ in range(30):
                mark, door = chance.choice(marks), chance.randrange(-1 if chance.random() < 0.1 else 0, most)
                if chance.random() < 0.15 and mark in plain.known:
                    if door in range(plain.known[mark]):
                        chart.forget(mark, door)
                        plain.forget(mark, door)
                    else:
                        self.refused(chart, NoDoor, None, chart.forget, mark, door)
                else:
                    doors = counts[mark] if chance.random() < 0.9 else chance.randrange(1, most + 1)
                    given = (door, chance.randrange(most), mark, doors)
                    due = plain.due(*given)
                    told[due] = told.get(due, 0) + 1
                    if due is None:
                        chart.went(*given)
                        plain.went(*given)
                    else:
                        self.refused(chart, due[0], due[1], chart.went, *given)
                self.assertEqual(all_of(chart), plain.all_of())
                ways = plain.ways()
                self.assertEqual([chart.way_by(mark) for mark in plain.known], [ways.get(mark) for mark in plain.known])
                self.assertEqual(chart.next_way(), plain.next_way())
        self.assertGreater(min(told.values()), 40)
        self.assertEqual(len(told), 5)

    def test_two_charts(self):
        one, other = Chart("a", 2), Chart("a", 2)
        one.went(0, 0, "b", 1)
        self.assertEqual(all_of(other), ("a", (("a", 2),), ((None, None),), [(0, 0), (0, 1)]))
        other.went(0, 1, "a", 2)
        self.assertEqual(all_of(one), ("b", (("a", 2), ("b", 1)), (((1, 0), None), ((0, 0),)), [(0, 1)]))
        other.forget("a", 1)
        self.assertEqual(one.sketch(), (((1, 0), None), ((0, 0),)))
        self.refused(other, NoMark, None, other.way_by, "b")

    def test_what_was_told_is_the_askers_own(self):
        chart = Chart("a", 2)
        one, other = chart.open_doors(), chart.open_doors()
        before = all_of(chart)
        one.clear()
        other.append((7, 7))
        self.assertEqual(chart.open_doors(), [(0, 0), (0, 1)])
        self.assertIsNot(chart.open_doors(), chart.open_doors())
        chart.went(0, 0, "b", 3)
        chart.forget("a", 0)
        self.assertEqual(before, ("a", (("a", 2),), ((None, None),), [(0, 0), (0, 1)]))

    def test_the_same_question_is_told_the_same(self):
        chart = self.grown(ring(4))
        chart.forget("b", 0)
        self.assertEqual(more_of(chart), more_of(chart))


if __name__ == "__main__":
    unittest.main()
