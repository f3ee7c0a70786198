"""What a walker learns of its web by going about, without a stone."""

from stonewalker.parting import parting
from stonewalker.webs import seen


# Goes the way; tells the doors come in by, by which led_back goes back.
def led(walker, way):
    return [walker.go(door)[1] for door in way]


def led_back(walker, doors):
    for door in reversed(doors):
        walker.go(door)


def view(walker, deep):
    told = [walker.here()[0]]
    if deep > 0:
        for door in range(told[0]):
            came = walker.go(door)[1]
            told.append((came, view(walker, deep - 1)))
            walker.go(came)
    return tuple(told)


# In a web of so many rooms, those that are apart are parted by a way of fewer doors: a view by one less tells a kind.
# Kinds are numbered as they are first come to, which is how told_from numbers them.
def learnt(walker, most):
    numbers = {view(walker, most - 1): 0}
    ways = [()]
    told = []
    while len(told) < len(ways):
        way = ways[len(told)]
        back = led(walker, way)
        ends = []
        for door, beyond in enumerate(view(walker, most)[1:]):
            if beyond[1] not in numbers:
                numbers[beyond[1]] = len(ways)
                ways.append(way + (door,))
            ends.append((numbers[beyond[1]], beyond[0]))
        told.append(tuple(ends))
        led_back(walker, back)
    return tuple(told)


# What the walker sees on the way, as seen tells it: None where the way isn't possible.
def seen_by(walker, way):
    here = walker.here()
    told = [here[0]]
    back = []
    for door in way:
        if door >= here[0]:
            break
        here = walker.go(door)
        back.append(here[1])
        told.append((here[1], here[0]))
    led_back(walker, back)
    return tuple(told) if len(back) == len(way) else None


# The least way that parts the first of the rooms and the next one that is apart from it; None where all are alike.
def first_parting(web, rooms):
    for room in rooms:
        way = parting(web, rooms[0], web, room)
        if way is not None:
            return way
    return None


# The way is possible from both rooms that it parts, so that each walk rules out one of them at least.
def whereabouts(walker, web):
    rooms = list(range(len(web)))
    way = first_parting(web, rooms)
    while way is not None:
        found = seen_by(walker, way)
        rooms = [room for room in rooms if seen(web, room, way) == found]
        way = first_parting(web, rooms)
    return rooms
