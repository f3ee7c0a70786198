"""Folded webs: what is left of a web where alike rooms are one."""

from stonewalker.kinds import kind_numbers, kinds
from stonewalker.numbering import ends_by, told_from
from stonewalker.webs import is_number_of_room


def folds_by(web):
    return tuple(kind_numbers(web, len(web)))


# Any room of a kind tells where its doors lead, as alike rooms lead to alike ones.
def folded(web):
    numbers = folds_by(web)
    return tuple([ends_by(web[kind[0]], numbers) for kind in kinds(web)])


def is_fold(big, small, numbers):
    if not isinstance(numbers, (tuple, list)) or len(numbers) != len(big):
        return False
    if not all([is_number_of_room(small, number) for number in numbers]):
        return False
    return all([small[numbers[room]] == ends_by(ends, numbers) for room, ends in enumerate(big)])


def sheets(web):
    return len(kinds(web)[0])


def can_be_learnt(web, room):
    return told_from(folded(web), folds_by(web)[room])
