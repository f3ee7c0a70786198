"""Two walkers in one web: a rule by which they meet, or why they never do."""

from stonewalker.folding import folds_by
from stonewalker.kinds import kinds
from stonewalker.pairing import pairing, shows_pairing
from stonewalker.webs import is_number, way_to


# The rooms in which a walker stands behind 0, 1, 2 .. steps of the plan; None where a step of it isn't possible.
def stood(web, room, plan):
    here = room
    rooms = [room]
    for door in plan:
        if door is not None:
            if not is_number(door) or not 0 <= door < len(web[here]):
                return None
            here = web[here][door][0]
        rooms.append(here)
    return rooms


def is_possible(web, rooms, plan):
    return all([stood(web, room, plan) is not None for room in rooms])


def is_rule(web, rule):
    known = kinds(web)
    if not isinstance(rule, tuple) or len(rule) != len(known):
        return False
    if not all([isinstance(plan, tuple) for plan in rule]):
        return False
    if any([len(plan) != len(rule[0]) for plan in rule]):
        return False
    return all([is_possible(web, rooms, plan) for rooms, plan in zip(known, rule)])


def meet_at(web, a, b, rule):
    numbers = folds_by(web)
    others = stood(web, b, rule[numbers[b]])
    for step, room in enumerate(stood(web, a, rule[numbers[a]])):
        if room == others[step]:
            return step
    return None


# The rule, gone on with so that a walker from a comes to where one from b waits. All walkers of a's kind go the same
# doors, which is possible, as they have stood in alike rooms all the while; the other kinds wait.
def gone_on(web, rule, a, b):
    numbers = folds_by(web)
    goes = numbers[a]
    way = way_to(web, stood(web, a, rule[goes])[-1], stood(web, b, rule[numbers[b]])[-1])
    waits = (None,) * len(way)
    return tuple([plan + (way if kind == goes else waits) for kind, plan in enumerate(rule)])


def meeting_rule(web):
    numbers = folds_by(web)
    rule = ((),) * len(kinds(web))
    for a in range(len(web)):
        for b in range(a):
            if numbers[a] != numbers[b] and meet_at(web, a, b, rule) is None:
                rule = gone_on(web, rule, a, b)
    return rule


def meeting(web, a, b):
    pairs = pairing(web, a, web, b)
    if a == b or pairs is None:
        return ("step", meet_at(web, a, b, meeting_rule(web)))
    return ("never", pairs)


def shows_never(web, a, b, pairs):
    return shows_pairing(web, a, web, b, pairs) and all([pair[0] != pair[1] for pair in pairs])
