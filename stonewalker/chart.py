"""Charts that grow by walking, where each room bears a mark."""

from stonewalker.errors import Clash, NoDoor, NoMark, NotWhole
from stonewalker.tying import sketched, tied
from stonewalker.webs import first_comings, way_to


# An open door is taken to lead to itself: it brings one nowhere, so that ways to other rooms are by known ties alone.
def shut(sketch):
    rooms = []
    for room, ends in enumerate(sketch):
        rooms.append(tuple([(room, door) if end is None else end for door, end in enumerate(ends)]))
    return tuple(rooms)


class Chart:
    def __init__(self, mark, doors):
        self.marks = [mark]
        self.counts = [doors]
        self.leads = {}
        self.place = 0

    # The number of the room of that mark; of a mark that isn't known, the one that it would get.
    def number_of(self, mark):
        return self.marks.index(mark) if mark in self.marks else len(self.marks)

    def known_number(self, mark):
        if mark not in self.marks:
            raise NoMark("no room of that mark is known")
        return self.marks.index(mark)

    def refuse_clash(self, start, end, doors):
        if end[0] < len(self.counts) and self.counts[end[0]] != doors:
            raise Clash("that room is known with another number of doors", "doors")
        if self.leads.get(start, end) != end:
            raise Clash("that door is known to lead to another end", "end")
        if self.leads.get(end, start) != start:
            raise Clash("that end is known to lead to another door", "taken")

    def went(self, door, came, mark, doors):
        if not 0 <= door < self.counts[self.place] or not 0 <= came < doors:
            raise NoDoor("a room has no such door")
        start = (self.place, door)
        end = (self.number_of(mark), came)
        self.refuse_clash(start, end, doors)
        if mark not in self.marks:
            self.marks.append(mark)
            self.counts.append(doors)
        self.leads = tied(self.leads, start, end)
        self.place = end[0]

    def here(self):
        return self.marks[self.place]

    def rooms(self):
        return tuple(zip(self.marks, self.counts))

    def sketch(self):
        return sketched(self.counts, self.leads)

    def open_doors(self):
        told = []
        for room, ends in enumerate(self.sketch()):
            told.extend([(room, door) for door, end in enumerate(ends) if end is None])
        return told

    # Rooms are come to by least ways in their order, so the first one with an open door is the one to go to.
    def next_way(self):
        web = shut(self.sketch())
        ends = self.open_doors()
        for room in list(first_comings(web, self.place)):
            doors = [end[1] for end in ends if end[0] == room]
            if doors:
                return way_to(web, self.place, room) + (doors[0],)
        return None

    def way_by(self, mark):
        room = self.known_number(mark)
        web = shut(self.sketch())
        return way_to(web, self.place, room) if room in first_comings(web, self.place) else None

    def forget(self, mark, door):
        start = (self.known_number(mark), door)
        if not 0 <= door < self.counts[start[0]]:
            raise NoDoor("that room has no such door")
        if start in self.leads:
            end = self.leads.pop(start)
            # A door that led to itself is out by now.
            self.leads.pop(end, None)

    def whole(self):
        if self.open_doors():
            raise NotWhole("a door is open")
        return self.sketch()
