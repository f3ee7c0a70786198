"""Rooms that are tied end by end: leads tells of each tied end the one to which it leads."""


# What is handed in stays as it is, so that several ties may be tried on from one beginning.
def tied(leads, start, end):
    further = dict(leads)
    further[start] = end
    further[end] = start
    return further


# A tuple of rooms with so many doors, each a tuple of ends, None for an end that isn't tied.
def sketched(counts, leads):
    rooms = []
    for room, doors in enumerate(counts):
        rooms.append(tuple([leads.get((room, door)) for door in range(doors)]))
    return tuple(rooms)
