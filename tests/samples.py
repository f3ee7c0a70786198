"""Webs to ask about, and plain second answers that are made in another way than the program's."""

import itertools
import random

LONE = ((),)
SELF_DOOR = (((0, 0),),)
LOOP = (((0, 1), (0, 0)),)
TWICE = (((1, 0), (1, 1)), ((0, 0), (0, 1)))
TWICE_ACROSS = (((1, 1), (1, 0)), ((0, 1), (0, 0)))
# A door that leads to itself, two of one room that lead to one another, and two ties of the same two rooms.
MIXED = (
    ((0, 0), (0, 2), (0, 1), (1, 1), (1, 0)),
    ((0, 4), (0, 3), (2, 0)),
    ((1, 2), (2, 1)),
)


def joined(counts, tied):
    """The web of rooms with so many doors in which the ties lead to one another."""
    rooms = [[None] * count for count in counts]
    for one, other in tied:
        rooms[one[0]][one[1]] = other
        rooms[other[0]][other[1]] = one
    return tuple(tuple(ends) for ends in rooms)


def line(many):
    """Rooms in a row: door 0 leads down, but in room 0, and the last door leads up."""
    if many == 1:
        return LONE
    counts = [1] + [2] * (many - 2) + [1]
    return joined(counts, [((room, counts[room] - 1), (room + 1, 0)) for room in range(many - 1)])


def ring(many):
    """Rooms in a ring: door 0 leads to door 1 of the next."""
    return joined([2] * many, [((room, 0), ((room + 1) % many, 1)) for room in range(many)])


def wheel(many, hops):
    """All rooms alike: door 2k leads by hops[k] further, to door 2k + 1 there."""
    tied = []
    for place, hop in enumerate(hops):
        for room in range(many):
            tied.append(((room, 2 * place), ((room + hop) % many, 2 * place + 1)))
    return joined([2 * len(hops)] * many, tied)


def sheeted(web, many, seed):
    """A web of so many sheets over the web, crossed between them by chance; it may fall into parts."""
    chance = random.Random(seed)
    tied = []
    for room, ends in enumerate(web):
        for door, end in enumerate(ends):
            if (room, door) > end:
                continue
            turn = list(range(many))
            if (room, door) != end:
                chance.shuffle(turn)
            for sheet in range(many):
                tied.append(((room + sheet * len(web), door), (end[0] + turn[sheet] * len(web), end[1])))
    return joined([len(ends) for ends in web] * many, tied)


def sheeted_whole(web, many):
    """The first sheeted web that is one web."""
    for seed in range(1000):
        told = sheeted(web, many, seed)
        if plain_is_web(told):
            return told
    raise AssertionError("no such web of sheets")


def shuffled_web(counts, seed):
    """A web of rooms with so many doors, tied by chance."""
    chance = random.Random(seed)
    ends = [(room, door) for room, count in enumerate(counts) for door in range(count)]
    while True:
        chance.shuffle(ends)
        tied = list(zip(ends[0::2], ends[1::2]))
        if len(ends) % 2:
            tied.append((ends[-1], ends[-1]))
        told = joined(counts, tied)
        if plain_is_web(told):
            return told


def all_tied(ends):
    """All ways to tie the ends two and two, or with themselves."""
    if not ends:
        yield []
        return
    first, rest = ends[0], ends[1:]
    for tied in all_tied(rest):
        yield [(first, first)] + tied
    for place, other in enumerate(rest):
        for tied in all_tied(rest[:place] + rest[place + 1:]):
            yield [(first, other)] + tied


def small_webs(rooms, doors):
    """All webs of just so many rooms with at most so many doors in all."""
    told = []
    for counts in itertools.product(range(doors + 1), repeat=rooms):
        if sum(counts) > doors:
            continue
        ends = [(room, door) for room, count in enumerate(counts) for door in range(count)]
        for tied in all_tied(ends):
            web = joined(counts, tied)
            if plain_is_web(web):
                told.append(web)
    return told


def plain_number(thing):
    return type(thing) is int


def plain_is_web(thing):
    """is_web by the words of the point alone."""
    if type(thing) is not tuple or thing == ():
        return False
    for room in thing:
        if type(room) is not tuple:
            return False
        for end in room:
            if type(end) is not tuple or len(end) != 2:
                return False
            if not plain_number(end[0]) or not plain_number(end[1]):
                return False
    leads = {(r, i): end for r, room in enumerate(thing) for i, end in enumerate(room)}
    if any(leads.get(end) != start for start, end in leads.items()):
        return False
    near = [{r} | {end[0] for end in room} for r, room in enumerate(thing)]
    for _ in thing:
        near = [set().union(*(near[s] for s in rooms)) for rooms in near]
    return all(len(rooms) == len(thing) for rooms in near)


def plain_seen(web, room, way, stone=False):
    """What is seen on the way, built from its last step."""
    if not way:
        return (len(web[room]),)
    before = plain_seen(web, room, way[:-1], stone)
    if before is None:
        return None
    here = plain_gone(web, room, way[:-1])[0]
    if way[-1] not in range(len(web[here])):
        return None
    there, door = web[here][way[-1]]
    look = (door, len(web[there]))
    return before + (look + (int(there == room),) if stone else look,)


def plain_gone(web, room, way):
    """Where the way leads, step by step from the first one."""
    end = (room, None)
    for door in way:
        if door not in range(len(web[end[0]])):
            return None
        end = web[end[0]][door]
    return end


def ways(doors, most):
    """All ways of at most so many of the doors, the fewest first, then as tuples rise."""
    for many in range(most + 1):
        yield from itertools.product(range(doors), repeat=many)


def chance_way(web, room, many, seed):
    """A way of so many doors that is possible, as far as the rooms have doors."""
    chance = random.Random(seed)
    way = []
    while len(way) < many and web[room]:
        way.append(chance.randrange(len(web[room])))
        room = web[room][way[-1]][0]
    return tuple(way)


def most_doors(web):
    return max(len(room) for room in web)


def plain_way_to(web, one, other):
    """The least way among all ways."""
    for way in ways(most_doors(web), len(web)):
        end = plain_gone(web, one, way)
        if end is not None and end[0] == other:
            return way
    return None


def plain_same(one, a, other, b):
    """All numberings under which one is the other."""
    told = []
    if len(one) != len(other):
        return told
    for numbers in itertools.permutations(range(len(one))):
        goes = all(tuple((numbers[s], j) for s, j in one[r]) == other[numbers[r]] for r in range(len(one)))
        if goes and numbers[a] == b:
            told.append(numbers)
    return told


def plain_parting(one, a, other, b, stone=False):
    """The least way that parts, among all ways that are long enough to part whatever can be parted."""
    doors = max(most_doors(one), most_doors(other))
    for way in ways(doors, len(one) + len(other) - 1):
        if plain_seen(one, a, way, stone) != plain_seen(other, b, way, stone):
            return way
    return None


def plain_kind(web, room):
    """The rooms that no way parts from this one, found by pulling apart whatever can be."""
    apart = {(a, b) for a in range(len(web)) for b in range(len(web)) if len(web[a]) != len(web[b])}
    while True:
        more = {(a, b) for a in range(len(web)) for b in range(len(web)) if (a, b) not in apart
                and any(left[1] != right[1] or (left[0], right[0]) in apart for left, right in zip(web[a], web[b]))}
        if not more:
            return [other for other in range(len(web)) if (room, other) not in apart]
        apart |= more


class Bare:
    """All that learners may use of a walker, and nothing besides."""

    __slots__ = ("here", "go", "lay", "take", "in_hand")

    def __init__(self, walker):
        self.here = lambda: walker.here()
        self.go = lambda door: walker.go(door)
        self.lay = lambda: walker.lay()
        self.take = lambda: walker.take()
        self.in_hand = lambda: walker.in_hand()


class Handless(Bare):
    """A walker whose stones are not to be touched."""

    __slots__ = ()

    def __init__(self, walker):
        super().__init__(walker)
        self.lay = self.take = None


def deep(depth, shell):
    """A thing that lies so deep within lists or tuples."""
    thing = shell([])
    for _ in range(depth):
        thing = shell([thing])
    return thing


def odd_things():
    """Things of all sorts that may be asked about and are neither webs, ways, pairs nor numbers of rooms."""
    return [None, True, False, 0, 1, -1, 10 ** 40, "", "a", "01", "room", [None], (None,), [True], (False,),
            ["a"], ("a", "b"), [[]], ([],), [()], [[[]]], (((),),), [((0, 0), 0)], (0, (0, 0)), ((0,),),
            ((0, 0, 0),), [[0, 0, 0]], [(0, "0")], [("0", 0)], [(None, 0)], [(0, None)], [(True, False)],
            [(0, [0])], [((0,), 0)], (-1,), [-1], [0, -1], (1, True), [0, "1"], [0, None], (0, (1,)), [0, [1]],
            deep(5000, list), deep(5000, tuple), [deep(5000, list), 0], (deep(5000, tuple), 0),
            [(deep(5000, tuple), 0)], (((deep(5000, list), 0),),), (((0, deep(5000, tuple)),),)]


def spoilt(thing, seed):
    """The thing with one of its parts, at any depth, put for another one."""
    chance = random.Random(seed)
    others = [None, True, False, 0, 1, 2, -1, 99, "", "0", [], (), (0,), (0, 0), [0, 0], (0, 1), ((0, 0),)]

    def change(part):
        if isinstance(part, (tuple, list)) and part and chance.random() < 0.85:
            place = chance.randrange(len(part))
            parts = list(part)
            move = chance.randrange(6)
            if move == 0:
                parts.pop(place)
            elif move == 1:
                parts.append(chance.choice(others))
            else:
                parts[place] = change(parts[place])
            return type(part)(parts)
        if isinstance(part, tuple) and chance.random() < 0.5:
            return list(part)
        if isinstance(part, list) and chance.random() < 0.5:
            return tuple(part)
        return chance.choice(others)

    return change(thing)


SMALL = small_webs(1, 4) + small_webs(2, 5) + small_webs(3, 6) + small_webs(4, 6)
GREAT_ALIKE = wheel(24, (1, 5, 7))
GREAT_APART = shuffled_web([6] * 24, 3)
GREAT_SHEETS = sheeted_whole(shuffled_web([6] * 8, 5), 3)
NAMED = [LONE, SELF_DOOR, LOOP, TWICE, TWICE_ACROSS, MIXED, line(2), line(5), ring(1), ring(3), ring(6),
         wheel(5, (1, 2)), sheeted_whole(MIXED, 3)]
GREAT = [GREAT_ALIKE, GREAT_APART, GREAT_SHEETS, line(24), ring(24)]
# Pairs of webs that are small enough to try all ways.
COUPLES = [(one, other) for place, one in enumerate(SMALL) for other in SMALL[place % 37::37]
           if len(one) + len(other) <= 5 and most_doors(one) + most_doors(other) <= 7]
# Webs and sheets over them: alike, and not the same.
COUPLES += [(web, told) for web in SMALL if len(web) <= 2 and most_doors(web) <= 3
            for told in [sheeted(web, 2, 1), sheeted(web, 2, 4)] if plain_is_web(told)]
