"""Pairings, which show that no way parts two rooms."""

from stonewalker.parting import walked_both
from stonewalker.webs import is_number_of_room


def pairing(one, a, other, b):
    walked = walked_both(one, a, other, b, False)
    if walked[0] is not None:
        return None
    return sorted(walked[1])


def is_pair(one, other, thing):
    if not isinstance(thing, (tuple, list)) or len(thing) != 2:
        return False
    return is_number_of_room(one, thing[0]) and is_number_of_room(other, thing[1])


def is_kept(left_ends, right_ends, known):
    if len(left_ends) != len(right_ends):
        return False
    for left, right in zip(left_ends, right_ends):
        if left[1] != right[1] or (left[0], right[0]) not in known:
            return False
    return True


def shows_pairing(one, a, other, b, pairs):
    if not isinstance(pairs, (tuple, list)) or not all([is_pair(one, other, part) for part in pairs]):
        return False
    known = {}
    for pair in pairs:
        known[tuple(pair)] = True
    return (a, b) in known and all([is_kept(one[pair[0]], other[pair[1]], known) for pair in known])
