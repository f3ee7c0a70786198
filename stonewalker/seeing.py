"""Ways that see every room: of each web of a size, or from each room of a web."""

from stonewalker.evenwebs import even_webs, sees_all
from stonewalker.numbering import told_from
from stonewalker.searching import least_way
from stonewalker.webs import ends_on, gone, is_web, way_to


def webs_up_to(rooms, doors):
    webs = []
    for many in range(1, rooms + 1):
        webs.extend(even_webs(many, doors))
    return webs


def first_missed(webs, way):
    for web in webs:
        if not sees_all(web, 0, way):
            return web
    return None


def missed(rooms, doors, way):
    return first_missed(webs_up_to(rooms, doors), way)


def shows_missed(rooms, doors, way, web):
    if not is_web(web) or len(web) > rooms or not all([len(ends) == doors for ends in web]):
        return False
    return told_from(web, 0) == web and not sees_all(web, 0, way)


# From where the way leads, the way to the least room that it misses.
def way_on(web, way):
    here = gone(web, 0, way)[0]
    come_to = [0] + [end[0] for end in ends_on(web, 0, way)]
    left = [room for room in range(len(web)) if room not in come_to]
    return way_to(web, here, left[0])


# Each lengthening sees one more room of some web, so it ends.
def all_seeing(rooms, doors):
    webs = webs_up_to(rooms, doors)
    way = ()
    web = first_missed(webs, way)
    while web is not None:
        way = way + way_on(web, way)
        web = first_missed(webs, way)
    return way


def without(rooms, room):
    return tuple([other for other in rooms if other != room])


# One walk from each room: where it is, and the rooms that it hasn't seen yet.
def walks_begun(web):
    rooms = list(range(len(web)))
    return tuple([(room, without(rooms, room)) for room in rooms])


def walks_by(web, walks, door):
    further = []
    for room, left in walks:
        there = web[room][door][0]
        further.append((there, without(left, there)))
    return tuple(further)


def least_seeing(web):
    def beyond(walks):
        return [walks_by(web, walks, door) for door in range(len(web[0]))]

    return least_way(walks_begun(web), beyond, lambda walks: not any([left for room, left in walks]))
