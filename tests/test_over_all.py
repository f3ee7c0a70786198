"""What is promised over the whole program: told things are the asker's own, and what is handed in stays."""

import copy
import importlib
import unittest

from stonewalker import errors
from stonewalker.chart import Chart
from stonewalker.walker import Walker, onlooker
from tests.samples import LOOP, MIXED, SELF_DOOR, TWICE, line, ring
from tests.test_interface import INTERFACE

HOOKS = (((3, 0), (1, 0)), ((0, 1), (2, 0)), ((1, 1),), ((0, 0), (4, 0)), ((3, 1), (5, 0)), ((4, 1),))
STORY = (2, ((0, 1, 2), (0, 1, 2)))
SHEET = "web a\nroom 1.0\nroom 0.0\nties a\nkinds a\nmeet a 0 1"

# One question at least for each function; walkers stand as makers, so that each question gets its own.
QUESTIONS = {
    ("webs", "is_web"): [(MIXED,), ([],), ([[]],)],
    ("webs", "ties"): [(MIXED,), (((),),)],
    ("webs", "gone"): [(MIXED, 0, [4, 2, 1]), (MIXED, 0, [9])],
    ("webs", "seen"): [(MIXED, 0, [4, 2, 1]), (MIXED, 0, [])],
    ("webs", "back_way"): [(MIXED, 0, [4, 2, 1])],
    ("webs", "way_to"): [(MIXED, 0, 2)],
    ("numbering", "renumbered"): [(line(3), (2, 0, 1))],
    ("numbering", "told_from"): [(MIXED, 2), (TWICE, 0)],
    ("numbering", "same_web"): [(ring(3), 0, ring(3), 1)],
    ("parting", "parting"): [(line(5), 1, line(5), 3)],
    ("parting", "shows_parting"): [(line(3), 0, line(3), 2, [0]), (line(3), 0, line(3), 2, [[0]])],
    ("parting", "seen_with_stone"): [(MIXED, 0, [4, 2, 1])],
    ("parting", "parting_with_stone"): [(ring(3), 0, LOOP, 0)],
    ("pairing", "pairing"): [(ring(3), 0, ring(3), 1), (ring(3), 0, LOOP, 0)],
    ("pairing", "shows_pairing"): [(ring(2), 0, ring(2), 1, [[0, 1], [1, 0]])],
    ("kinds", "kinds"): [(HOOKS,), (ring(3),)],
    ("kinds", "kinds_by"): [(HOOKS, 0), (HOOKS, 3)],
    ("folding", "folded"): [(HOOKS,)],
    ("folding", "folds_by"): [(HOOKS,)],
    ("folding", "is_fold"): [(ring(3), LOOP, [0, 0, 0])],
    ("folding", "sheets"): [(HOOKS,)],
    ("folding", "can_be_learnt"): [(HOOKS, 4)],
    ("spreading", "spread"): [(LOOP, 3, [(1, 2, 0)])],
    ("walker", "onlooker"): [(lambda: Walker(MIXED, 1, 2),)],
    ("learning", "view"): [(lambda: Walker(MIXED, 1, 0), 3)],
    ("learning", "learnt"): [(lambda: Walker(line(3), 1, 0), 3)],
    ("learning", "whereabouts"): [(lambda: Walker(HOOKS, 1, 0), HOOKS)],
    ("stonemaps", "mapped"): [(lambda: Walker(HOOKS, 1, 1),)],
    ("stonemaps", "counted"): [(lambda: Walker(HOOKS, 1, 1),)],
    ("stonemaps", "mapped_round"): [(lambda: laid(Walker(ring(3), 1, 1)), 3)],
    ("evenwebs", "even_webs"): [(2, 2), (3, 2)],
    ("evenwebs", "sees_all"): [(line(3), 0, [0, 1])],
    ("seeing", "missed"): [(2, 2, [0, 0]), (2, 2, (0, 1, 1, 0, 0))],
    ("seeing", "shows_missed"): [(2, 2, [0], TWICE), (2, 2, [], [[]])],
    ("seeing", "all_seeing"): [(2, 2)],
    ("seeing", "least_seeing"): [(ring(3),)],
    ("stories", "story_of"): [(MIXED, 0, [4, 2, 1])],
    ("stories", "fits"): [(ring(3), 0, STORY)],
    ("stories", "stands"): [(ring(3), STORY)],
    ("fitting", "fitting"): [(STORY, 4), ((0, ()), 1)],
    ("fitting", "fewest"): [(STORY,)],
    ("crossing", "crossed"): [(TWICE, 0, 1, 0)],
    ("crossing", "put_right"): [(TWICE, 0, (2, ()))],
    ("meeting", "is_rule"): [(ring(3), ((0, None),)), (ring(3), ([0],))],
    ("meeting", "meet_at"): [(line(2), 0, 1, ((0,),)), (line(3), 0, 1, ((0,), (None,), (None,)))],
    ("meeting", "meeting_rule"): [(HOOKS,)],
    ("meeting", "meeting"): [(HOOKS, 0, 3), (HOOKS, 0, 1)],
    ("meeting", "shows_never"): [(ring(2), 0, 1, [[0, 1], [1, 0]]), (ring(2), 0, 1, [[[]]])],
    ("home", "way_home"): [(ring(4), STORY)],
    ("home", "telling_way"): [(line(5), [3, 1, 2])],
    ("sheet", "run"): [(SHEET,)],
}


def laid(walker):
    walker.lay()
    return walker


def made(question):
    """The question anew, none of its lists one of before."""
    return [part() if callable(part) else copy.deepcopy(part) for part in question]


def plain_parts(question):
    return [part for part in question if not isinstance(part, (Walker, Chart))]


def lists_in(thing):
    """All lists in a thing, at any depth."""
    told = [thing] if isinstance(thing, list) else []
    if isinstance(thing, (list, tuple)):
        for part in thing:
            told += lists_in(part)
    return told


def numbers_in(thing):
    if isinstance(thing, (list, tuple)):
        return [number for part in thing for number in numbers_in(part)]
    return [thing] if isinstance(thing, int) else []


def each_question():
    for (module, name), questions in QUESTIONS.items():
        function = getattr(importlib.import_module("stonewalker." + module), name)
        for question in questions:
            yield name, function, question


class OverAllTest(unittest.TestCase):
    def test_each_function_is_asked(self):
        wanted = {(module, name) for module, names in INTERFACE.items() for name in names}
        self.assertEqual(set(QUESTIONS), wanted - {("walker", "Walker"), ("chart", "Chart")})

    def test_the_same_question_is_told_the_same(self):
        for name, function, question in each_question():
            self.assertEqual(function(*made(question)), function(*made(question)), name)

    def test_what_is_handed_in_stays(self):
        for name, function, question in each_question():
            given = made(question)
            function(*given)
            self.assertEqual(plain_parts(given), plain_parts(made(question)), name)

    def test_no_two_told_lists_are_one(self):
        for name, function, question in each_question():
            given = made(question)
            # Kept till behind the last asking, so that no list is made in another one's place.
            told = [function(*made(question)), function(*made(question)), function(*given)]
            known = lists_in(told) + lists_in(plain_parts(given))
            self.assertEqual(len({id(part) for part in known}), len(known), name)

    def test_changing_what_was_told_changes_nothing_else(self):
        for name, function, question in each_question():
            one, other = function(*made(question)), function(*made(question))
            kept = copy.deepcopy(other)
            for part in lists_in(one):
                part.clear()
                part.append("changed")
            self.assertEqual(other, kept, name)
            self.assertEqual(function(*made(question)), kept, name)

    def test_numbers_are_never_true_or_false(self):
        for name, function, question in each_question():
            told = function(*made(question))
            if not isinstance(told, bool):
                self.assertFalse([number for number in numbers_in(told) if isinstance(number, bool)], name)

    def test_changing_what_was_handed_in_changes_nothing_told(self):
        for name, function, question in each_question():
            given = made(question)
            told = function(*given)
            kept = copy.deepcopy(told)
            for part in lists_in(plain_parts(given)):
                part.clear()
            self.assertEqual(told, kept, name)

    def test_what_was_told_may_be_handed_in_again(self):
        asked = {name: function for name, function, question in each_question()}
        self.assertIs(asked["shows_pairing"](HOOKS, 0, HOOKS, 3, asked["pairing"](HOOKS, 0, HOOKS, 3)), True)
        self.assertIs(asked["shows_never"](HOOKS, 0, 3, asked["meeting"](HOOKS, 0, 3)[1]), True)
        self.assertIs(asked["is_rule"](HOOKS, asked["meeting_rule"](HOOKS)), True)
        self.assertIs(asked["shows_parting"](HOOKS, 0, HOOKS, 1, asked["parting"](HOOKS, 0, HOOKS, 1)), True)
        self.assertIs(asked["is_fold"](HOOKS, asked["folded"](HOOKS), asked["folds_by"](HOOKS)), True)
        story = asked["story_of"](TWICE, 0, asked["way_to"](TWICE, 0, 1))
        self.assertIs(asked["fits"](TWICE, 0, story), True)
        self.assertIn(TWICE, asked["put_right"](TWICE, 0, story))
        for web in asked["fitting"](STORY, 4) + asked["even_webs"](2, 2):
            self.assertIs(asked["is_web"](web), True)
            self.assertEqual(asked["told_from"](web, 0), web)
        for kind in asked["kinds"](HOOKS):
            self.assertEqual(asked["telling_way"](HOOKS, kind), ())
        self.assertEqual(asked["gone"](line(3), 2, asked["way_home"](line(3), (1, ((0, 0, 2), (1, 0, 1)))))[0], 0)

    def test_the_classes_of_refusals(self):
        own = [made for made in vars(errors).values() if isinstance(made, type)]
        self.assertEqual(sorted(made.__name__ for made in own),
                         ["BadRow", "Clash", "NoDoor", "NoMark", "NoStone", "NoWeb", "NotWhole", "TooMany", "WebError"])
        for made_class in own:
            base = ValueError if made_class is errors.WebError else errors.WebError
            self.assertEqual(made_class.__bases__, (base,))


class ObjectsTest(unittest.TestCase):
    def test_nothing_done_later_changes_what_a_walker_told(self):
        walker = Walker(MIXED, 0, 3)
        walker.lay()
        told = [walker.here(), walker.in_hand(), walker.steps(), onlooker(walker)]
        walker.go(3)
        walker.lay()
        self.assertEqual(told, [(5, None, 1), 2, 0, (0, (0,))])

    def test_nothing_done_later_changes_what_a_chart_told(self):
        chart = Chart("a", 2)
        chart.went(0, 0, "b", 2)
        told = [chart.here(), chart.rooms(), chart.sketch(), chart.open_doors(), chart.next_way(), chart.way_by("a")]
        kept = copy.deepcopy(told)
        chart.went(1, 0, "c", 2)
        chart.forget("a", 0)
        chart.went(1, 1, "a", 2)
        self.assertEqual(told, kept)

    def test_lists_that_a_chart_tells(self):
        chart = Chart("a", 2)
        told = [chart.open_doors() for _ in range(3)]
        self.assertEqual(len({id(part) for part in told}), 3)
        told[0].append("changed")
        self.assertEqual(chart.open_doors(), [(0, 0), (0, 1)])
        self.assertEqual(chart.next_way(), (0,))
        self.assertRaises(errors.NotWhole, chart.whole)

    def test_refusals_change_nothing(self):
        for web in (SELF_DOOR, MIXED, HOOKS):
            walker = Walker(web, 0, 0)
            before = [walker.here(), walker.in_hand(), walker.steps(), onlooker(walker)]
            for act in (walker.lay, walker.take, lambda: walker.go(9)):
                self.assertRaises(errors.WebError, act)
            self.assertEqual([walker.here(), walker.in_hand(), walker.steps(), onlooker(walker)], before)


if __name__ == "__main__":
    unittest.main()
