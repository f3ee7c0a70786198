"""Webs of rooms with numbered doors, and ways through them."""


# True and False would pass for 1 and 0, and they are no numbers here.
def is_number(thing):
    return isinstance(thing, int) and not isinstance(thing, bool)


def is_number_of_room(web, thing):
    return is_number(thing) and 0 <= thing < len(web)


def is_end(thing):
    return isinstance(thing, tuple) and len(thing) == 2 and is_number(thing[0]) and is_number(thing[1])


def is_room(thing):
    return isinstance(thing, tuple) and all([is_end(part) for part in thing])


def leads_back(rooms, room, door):
    end = rooms[room][door]
    if not is_number_of_room(rooms, end[0]):
        return False
    if not 0 <= end[1] < len(rooms[end[0]]):
        return False
    return rooms[end[0]][end[1]] == (room, door)


def all_lead_back(rooms):
    for room, ends in enumerate(rooms):
        for door in range(len(ends)):
            if not leads_back(rooms, room, door):
                return False
    return True


# Each room with the end out of which it is first come to, in the order of coming; None for the first room.
# Ends are kept, not whole ways, since a web without bounds may have very long ones.
def first_comings(web, room):
    comings = {room: None}
    level = [room]
    while level:
        further = []
        for here in level:
            for door, end in enumerate(web[here]):
                if end[0] not in comings:
                    comings[end[0]] = (here, door)
                    further.append(end[0])
        level = further
    return comings


# The form of all parts is asked first: comparing parts of any depth could fail.
def is_web(thing):
    if not isinstance(thing, tuple) or len(thing) == 0:
        return False
    if not all([is_room(part) for part in thing]):
        return False
    # Doors lead both ways, so that one room from which all are come to is enough.
    return all_lead_back(thing) and len(first_comings(thing, 0)) == len(thing)


def ties(web):
    told = []
    for room, ends in enumerate(web):
        for door, end in enumerate(ends):
            if (room, door) <= end:
                told.append(((room, door), end))
    return told


# The ends come in by, one for each step; None where the way isn't possible.
def ends_on(web, room, way):
    ends = []
    here = room
    for door in way:
        if not 0 <= door < len(web[here]):
            return None
        end = web[here][door]
        ends.append(end)
        here = end[0]
    return ends


def gone(web, room, way):
    ends = ends_on(web, room, way)
    if ends is None:
        return None
    return ends[-1] if ends else (room, None)


def seen(web, room, way):
    ends = ends_on(web, room, way)
    if ends is None:
        return None
    return tuple([len(web[room])] + [(end[1], len(web[end[0]])) for end in ends])


def back_way(web, room, way):
    ends = ends_on(web, room, way)
    if ends is None:
        return None
    return tuple([end[1] for end in reversed(ends)])


# Rooms are first come to by doors in rising order, so the first coming is also the first as tuples rise.
def way_to(web, one, other):
    comings = first_comings(web, one)
    doors = []
    end = comings[other]
    while end is not None:
        doors.append(end[1])
        end = comings[end[0]]
    return tuple(reversed(doors))
