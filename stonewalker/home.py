"""Ways for a walker that may stand in one of several rooms: home, or to learn in which one it was."""

from stonewalker.parting import parting
from stonewalker.searching import least_way
from stonewalker.stories import stands


# For each door that all these rooms have, the ends to which it leads from them.
def ends_beyond(web, rooms):
    doors = min([len(web[room]) for room in rooms])
    return [tuple([web[room][door] for room in rooms]) for door in range(doors)]


def rooms_of(ends):
    return tuple([end[0] for end in ends])


# The way back, step by step, leads home from all of them, so that there is one.
def way_home(web, story):
    pairs = stands(web, story)
    if not pairs:
        return None
    first = tuple([pair[0] for pair in pairs])
    last = tuple([pair[1] for pair in pairs])

    def beyond(rooms):
        return [rooms_of(ends) for ends in ends_beyond(web, rooms)]

    return least_way(last, beyond, lambda rooms: rooms == first)


# The couples of places in the list of rooms whose rooms are apart.
def places_apart(web, rooms):
    told = []
    for place, room in enumerate(rooms):
        for before in range(place):
            if parting(web, rooms[before], web, room) is not None:
                told.append((before, place))
    return told


# The couples of places that look alike still.
def still_alike(couples, looks):
    return tuple([couple for couple in couples if looks[couple[0]] == looks[couple[1]]])


def look_of(web, end):
    return (end[1], len(web[end[0]]))


# What is walked through is the rooms in which it may stand by now, with the couples that nothing seen has parted yet.
def telling_way(web, rooms):
    def beyond(here):
        told = []
        for ends in ends_beyond(web, here[0]):
            told.append((rooms_of(ends), still_alike(here[1], [look_of(web, end) for end in ends])))
        return told

    couples = still_alike(places_apart(web, rooms), [len(web[room]) for room in rooms])
    return least_way((tuple(rooms), couples), beyond, lambda here: len(here[1]) == 0)
