"""Webs under other numbers of their rooms."""

from stonewalker.webs import first_comings


def ends_by(ends, numbers):
    return tuple([(numbers[end[0]], end[1]) for end in ends])


def renumbered(web, numbers):
    rooms = list(web)
    for room, ends in enumerate(web):
        rooms[numbers[room]] = ends_by(ends, numbers)
    return tuple(rooms)


def told_from(web, room):
    numbers = list(range(len(web)))
    for number, come_to in enumerate(list(first_comings(web, room))):
        numbers[come_to] = number
    return renumbered(web, tuple(numbers))


# Where both are told the same, rooms that are come to at one place of the order are one room.
def same_web(one, a, other, b):
    if told_from(one, a) != told_from(other, b):
        return None
    partners = dict(zip(list(first_comings(one, a)), list(first_comings(other, b))))
    return tuple([partners[room] for room in range(len(one))])
