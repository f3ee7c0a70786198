import itertools
import unittest

from stonewalker.folding import can_be_learnt, folded, folds_by, is_fold, sheets
from stonewalker.kinds import kinds
from stonewalker.numbering import renumbered, told_from
from stonewalker.parting import parting
from stonewalker.webs import is_web
from tests import samples
from tests.samples import LONE, LOOP, MIXED, SELF_DOOR, TWICE, TWICE_ACROSS, line, ring


def plain_fold(big, small, numbers):
    """is_fold by the words of the point alone."""
    if type(numbers) not in (tuple, list) or len(numbers) != len(big):
        return False
    if any(type(number) is not int or number not in range(len(small)) for number in numbers):
        return False
    for room, ends in enumerate(big):
        if len(ends) != len(small[numbers[room]]):
            return False
        for door, (other, come) in enumerate(ends):
            if small[numbers[room]][door] != (numbers[other], come):
                return False
    return True


class FoldedTest(unittest.TestCase):
    def test_told_webs(self):
        self.assertEqual(folded(ring(6)), LOOP)
        self.assertEqual(folded(samples.GREAT_ALIKE), (((0, 1), (0, 0), (0, 3), (0, 2), (0, 5), (0, 4)),))
        self.assertEqual(folded(line(2)), SELF_DOOR)
        self.assertEqual(folded(TWICE), (((0, 0), (0, 1)),))
        self.assertEqual(folded(TWICE_ACROSS), LOOP)
        doubled = samples.joined([1, 2, 2, 1], [((0, 0), (1, 0)), ((1, 1), (2, 1)), ((2, 0), (3, 0))])
        self.assertEqual(folded(doubled), (((1, 0),), ((0, 0), (1, 1))))

    def test_webs_without_rooms_alike_stay(self):
        for web in [LONE, SELF_DOOR, LOOP, MIXED, line(3), line(24), samples.GREAT_APART]:
            self.assertEqual(folded(web), web)
            self.assertEqual(folds_by(web), tuple(range(len(web))))
            self.assertEqual(sheets(web), 1)

    def test_folded_webs_of_all(self):
        for web in samples.NAMED + samples.GREAT + samples.SMALL:
            small, numbers, found = folded(web), folds_by(web), kinds(web)
            self.assertTrue(is_web(small))
            self.assertIs(type(numbers), tuple)
            self.assertEqual(numbers, tuple(place for room in range(len(web))
                                            for place, kind in enumerate(found) if room in kind))
            self.assertEqual(len(small), len(found))
            self.assertTrue(plain_fold(web, small, numbers))
            self.assertEqual(folded(small), small)
            self.assertTrue(all(len(kind) == sheets(web) for kind in found))
            for room in range(len(web)):
                self.assertIsNone(parting(web, room, small, numbers[room]))

    def test_sheets(self):
        self.assertEqual(sheets(ring(24)), 24)
        self.assertEqual(sheets(TWICE), 2)
        self.assertEqual(sheets(samples.GREAT_SHEETS), 3)
        self.assertEqual(sheets(samples.GREAT_ALIKE), 24)
        for many in range(2, 6):
            web = samples.sheeted_whole(MIXED, many)
            self.assertEqual(sheets(web), many)
            self.assertEqual(folded(web), MIXED)
            self.assertEqual(folds_by(web), (0, 1, 2) * many)

    def test_kinds_by_their_order(self):
        web = renumbered(samples.sheeted_whole(MIXED, 2), (4, 1, 2, 3, 0, 5))
        self.assertEqual(folds_by(web), (0, 0, 1, 2, 2, 1))
        self.assertEqual(folded(web), renumbered(MIXED, (2, 0, 1)))


class IsFoldTest(unittest.TestCase):
    def test_tuple_and_list(self):
        self.assertIs(is_fold(ring(6), ring(3), (0, 1, 2, 0, 1, 2)), True)
        self.assertIs(is_fold(ring(6), ring(3), [1, 2, 0, 1, 2, 0]), True)
        self.assertIs(is_fold(ring(6), ring(3), (0, 2, 1, 0, 2, 1)), False)
        self.assertIs(is_fold(ring(6), ring(4), (0, 1, 2, 3, 0, 1)), False)
        self.assertIs(is_fold(ring(6), LOOP, [0] * 6), True)
        self.assertIs(is_fold(LOOP, ring(6), [0]), False)
        self.assertIs(is_fold(MIXED, MIXED, (0, 1, 2)), True)
        self.assertIs(is_fold(LONE, LONE, (0,)), True)
        self.assertIs(is_fold(LONE, SELF_DOOR, (0,)), False)
        self.assertIs(is_fold(SELF_DOOR, LONE, (0,)), False)
        self.assertIs(is_fold(line(2), SELF_DOOR, (0, 0)), True)
        self.assertIs(is_fold(TWICE, LOOP, (0, 0)), False)

    def test_unlike_many_doors(self):
        more = (((0, 1), (0, 0), (0, 2)),)
        self.assertIs(is_fold(ring(2), more, (0, 0)), False)
        self.assertIs(is_fold(more, LOOP, (0,)), False)

    def test_numbers_that_are_anything(self):
        for thing in samples.odd_things():
            self.assertIs(is_fold(ring(2), LOOP, thing), False)
            self.assertIs(is_fold(ring(2), LOOP, (0, thing)), thing == 0 and thing is not False)
            self.assertIs(is_fold(ring(2), LOOP, [thing, 0]), thing == 0 and thing is not False)
            self.assertIs(is_fold(LONE, LONE, thing), False)
            self.assertIs(is_fold(LONE, LONE, [thing]), thing == 0 and thing is not False)
        for numbers in [(), (0,), (0, 0, 0), [], [0], [0] * 3, "00", (0, 1), (0, -1), (-1, -1), (0, 10 ** 30)]:
            self.assertIs(is_fold(ring(2), LOOP, numbers), False)
        self.assertIs(is_fold(TWICE, TWICE, (0, True)), False)
        self.assertIs(is_fold(TWICE, TWICE, [False, 1]), False)
        self.assertIs(is_fold(TWICE, TWICE, (0, -1)), False)

    def test_all_numbers_of_small_webs(self):
        folds = 0
        for one, other in samples.COUPLES:
            for numbers in itertools.product(range(-1, len(other) + 1), repeat=len(one)):
                wanted = plain_fold(one, other, numbers)
                folds += wanted
                self.assertIs(is_fold(one, other, numbers), wanted)
                self.assertIs(is_fold(one, other, list(numbers)), wanted)
        self.assertGreater(folds, 20)

    def test_spoilt_numbers(self):
        web = samples.sheeted_whole(MIXED, 3)
        for seed in range(1000):
            thing = samples.spoilt(folds_by(web), seed)
            self.assertIs(is_fold(web, MIXED, thing), plain_fold(web, MIXED, thing))

    def test_webs_to_the_bounds(self):
        for web in samples.GREAT:
            self.assertIs(is_fold(web, folded(web), folds_by(web)), True)
            self.assertIs(is_fold(web, web, tuple(range(24))), True)
            self.assertIs(is_fold(web, web, tuple(range(23))), False)
            self.assertIs(is_fold(web, web, tuple(range(25))), False)

    def test_what_is_handed_in_stays(self):
        numbers = [0, 1, 2, 0, 1, 2]
        is_fold(ring(6), ring(3), numbers)
        self.assertEqual(numbers, [0, 1, 2, 0, 1, 2])


class CanBeLearntTest(unittest.TestCase):
    def test_told_webs(self):
        self.assertEqual(can_be_learnt(ring(6), 4), LOOP)
        self.assertEqual(can_be_learnt(line(2), 1), SELF_DOOR)
        self.assertEqual(can_be_learnt(LONE, 0), LONE)
        self.assertEqual(can_be_learnt(line(3), 1), (((1, 0), (2, 0)), ((0, 0),), ((0, 1),)))
        for room in range(3):
            self.assertEqual(can_be_learnt(MIXED, room), told_from(MIXED, room))
            for sheet in range(3):
                web = samples.sheeted_whole(MIXED, 3)
                self.assertEqual(can_be_learnt(web, room + 3 * sheet), told_from(MIXED, room))

    def test_all_that_walks_tell(self):
        for one, other in samples.COUPLES[::2] + list(itertools.product(samples.GREAT, repeat=2)):
            for b in range(len(other)):
                same = can_be_learnt(one, 0) == can_be_learnt(other, b)
                self.assertEqual(same, parting(one, 0, other, b) is None)

    def test_numbers_do_not_matter(self):
        numbers = tuple(room * 5 % 24 for room in range(24))
        for web in samples.GREAT:
            for room in range(24):
                told = can_be_learnt(web, room)
                self.assertEqual(can_be_learnt(renumbered(web, numbers), numbers[room]), told)
                self.assertEqual(told_from(told, 0), told)

    def test_the_same_question_is_told_the_same(self):
        for web in samples.GREAT:
            self.assertEqual(folded(web), folded(web))
            self.assertEqual(folds_by(web), folds_by(web))
            self.assertEqual(can_be_learnt(web, 9), can_be_learnt(web, 9))


if __name__ == "__main__":
    unittest.main()
