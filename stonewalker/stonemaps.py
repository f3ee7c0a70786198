"""Maps with a stone, by which a walker knows its first room again."""

from stonewalker.errors import NoStone
from stonewalker.learning import led, led_back


# Whether this is the room to which the way leads from the stone, coming in by these doors. It is where the way back
# leads to the stone from here, by the same doors at both ends of each step: gone the other way round, that walk is
# the way itself, which leads to one room alone.
def is_end_of(walker, way, doors):
    here = walker.here()
    came = []
    for door in reversed(doors):
        if door >= here[0]:
            break
        here = walker.go(door)
        came.append(here[1])
    led_back(walker, came)
    return came == list(reversed(way)) and here[2] > 0


# The number of the track that ends here, the next number where none does.
def number_here(walker, tracks):
    for number, track in enumerate(tracks):
        if is_end_of(walker, track[0], track[1]):
            return number
    return len(tracks)


# The web of a walker that stands where the only stone lies.
# Rooms are numbered as they are first come to, which is how told_from numbers them.
def by_stone(walker):
    tracks = [((), ())]
    told = []
    while len(told) < len(tracks):
        track = tracks[len(told)]
        back = led(walker, track[0])
        ends = []
        for door in range(walker.here()[0]):
            came = walker.go(door)[1]
            number = number_here(walker, tracks)
            if number == len(tracks):
                tracks.append((track[0] + (door,), track[1] + (came,)))
            ends.append((number, came))
            walker.go(came)
        led_back(walker, back)
        told.append(tuple(ends))
    return tuple(told)


def mapped(walker):
    if walker.in_hand() == 0:
        raise NoStone("no stone is in hand")
    walker.lay()
    told = by_stone(walker)
    walker.take()
    return told


def counted(walker):
    return len(mapped(walker))


# The stone alone tells rooms from one another, so that how many there may be isn't needed.
def mapped_round(walker, most):
    if walker.here()[2] == 0:
        raise NoStone("no stone lies here")
    return by_stone(walker)
