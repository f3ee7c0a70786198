"""A walker that sees doors, its way and stones, and never the number of a room."""

from stonewalker.errors import NoDoor, NoStone


class Walker:
    def __init__(self, web, room, stones):
        self.web = web
        self.room = room
        self.came = None
        self.held = stones
        self.lying = []
        self.walked = 0

    def here(self):
        return (len(self.web[self.room]), self.came, self.lying.count(self.room))

    def go(self, door):
        if not 0 <= door < len(self.web[self.room]):
            raise NoDoor("the room has no such door")
        end = self.web[self.room][door]
        self.room = end[0]
        self.came = end[1]
        self.walked = self.walked + 1
        return self.here()

    def lay(self):
        if self.held == 0:
            raise NoStone("no stone is in hand")
        self.held = self.held - 1
        self.lying.append(self.room)
        return self.here()

    def take(self):
        if self.room not in self.lying:
            raise NoStone("no stone lies here")
        self.lying.remove(self.room)
        self.held = self.held + 1
        return self.here()

    def in_hand(self):
        return self.held

    def steps(self):
        return self.walked


# Stands outside the class, so that nothing a walker can be asked gives its room away.
def onlooker(walker):
    return (walker.room, tuple(sorted(walker.lying)))
