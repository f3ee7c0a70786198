"""Ways that part two rooms, without a stone and with one."""

from stonewalker.webs import ends_on, is_number, seen


def is_way(thing):
    return isinstance(thing, (tuple, list)) and all([is_number(part) and part >= 0 for part in thing])


# The stone, which lies in the first room, is all by which a room come to can differ beyond its doors.
def look(web, first, end, stone):
    if stone:
        return (end[1], len(web[end[0]]), 1 if end[0] == first else 0)
    return (end[1], len(web[end[0]]))


# The least way that parts a and b, or None; and the pairs of rooms come to till then.
# Pairs are come to by the fewest doors, then by ways as tuples rise, so the first way that parts is the least.
def walked_both(one, a, other, b, stone):
    pairs = {(a, b): True}
    if len(one[a]) != len(other[b]):
        return ((), pairs)
    level = [((a, b), ())]
    while level:
        further = []
        for pair, way in level:
            for door, left in enumerate(one[pair[0]]):
                right = other[pair[1]][door]
                if look(one, a, left, stone) != look(other, b, right, stone):
                    return (way + (door,), pairs)
                come_to = (left[0], right[0])
                if come_to not in pairs:
                    pairs[come_to] = True
                    further.append((come_to, way + (door,)))
        level = further
    return (None, pairs)


def parting(one, a, other, b):
    return walked_both(one, a, other, b, False)[0]


def shows_parting(one, a, other, b, way):
    least = parting(one, a, other, b)
    if least is None or not is_way(way) or len(way) != len(least):
        return False
    return seen(one, a, way) != seen(other, b, way)


def seen_with_stone(web, room, way):
    ends = ends_on(web, room, way)
    if ends is None:
        return None
    return tuple([len(web[room])] + [look(web, room, end, True) for end in ends])


def parting_with_stone(one, a, other, b):
    return walked_both(one, a, other, b, True)[0]
