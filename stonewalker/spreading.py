"""Webs of several sheets over a web."""

from stonewalker.errors import NoWeb
from stonewalker.webs import first_comings, ties


def is_own_back(turn):
    return all([turn[turn[sheet]] == sheet for sheet in range(len(turn))])


# Both ends of a tie are set from the first one: of a door with itself they are the same ends,
# which is why its turn has to be its own back.
def tied_by(web, many, turns):
    rooms = [list(ends) for ends in web * many]
    for tie, turn in zip(ties(web), turns):
        one = tie[0]
        other = tie[1]
        if one == other and not is_own_back(turn):
            raise NoWeb("a door that leads to itself has a turn that isn't its own back")
        for sheet in range(many):
            near = one[0] + sheet * len(web)
            far = other[0] + turn[sheet] * len(web)
            rooms[near][one[1]] = (far, other[1])
            rooms[far][other[1]] = (near, one[1])
    return tuple([tuple(ends) for ends in rooms])


def spread(web, many, turns):
    told = tied_by(web, many, turns)
    if len(first_comings(told, 0)) < len(told):
        raise NoWeb("not each room is come to")
    return told
