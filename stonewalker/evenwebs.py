"""Webs whose rooms have as many doors each, and ways that come to each room."""

from stonewalker.tying import sketched, tied
from stonewalker.webs import ends_on, is_web


# What is begun, with the end tied: as it is where it is tied, else once for each end that it may be tied with.
# Of the rooms that aren't come to yet it may lead to the least one alone, as rooms are numbered by their coming.
def tied_on(begun, end, rooms, doors):
    if end in begun:
        return [begun]
    least_new = max([0] + [other[0] for other in begun]) + 1
    told = []
    for room in range(end[0], min(least_new + 1, rooms)):
        for door in range(doors):
            other = (room, door)
            if other not in begun:
                told.append(tied(begun, end, other))
    return told


# Ends are tied in their order, each with others in theirs, so the told webs rise.
def even_webs(rooms, doors):
    begun = [{}]
    for room in range(rooms):
        for door in range(doors):
            further = []
            for leads in begun:
                further.extend(tied_on(leads, (room, door), rooms, doors))
            begun = further
    webs = [sketched([doors] * rooms, leads) for leads in begun]
    # Rooms may be left that aren't come to, all doors ahead of them being tied.
    return [web for web in webs if is_web(web)]


def sees_all(web, room, way):
    ends = ends_on(web, room, way)
    if ends is None:
        return False
    return len(set([room] + [end[0] for end in ends])) == len(web)
