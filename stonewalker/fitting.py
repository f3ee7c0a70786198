"""Webs that a story allows."""

from stonewalker.errors import TooMany
from stonewalker.numbering import told_from
from stonewalker.tying import sketched, tied

MOST_TOLD = 20
MOST_ROOMS = 4


# The ends to which a step may lead out of an end, counts telling how many doors each known room has.
# A new room gets the next number, so that each web is come to by one choice of ends alone.
def ends_for(counts, leads, start, step, most):
    if not 0 <= start[1] < counts[start[0]] or not 0 <= step[1] < step[2]:
        return []
    rooms = [room for room, doors in enumerate(counts) if doors == step[2]]
    ends = [(room, step[1]) for room in rooms]
    if len(counts) < most:
        ends.append((len(counts), step[1]))
    if start in leads:
        return [end for end in ends if end == leads[start]]
    return [end for end in ends if end not in leads]


# The webs to which the steps, gone on from that room, complete what is known; no more of them than are enough.
def webs_by(counts, leads, room, steps, most, enough):
    untied = sum(counts) - len(leads)
    if len(steps) == 0:
        return [sketched(counts, leads)] if untied == 0 else []
    # A step ties two doors at most.
    if untied > 2 * len(steps):
        return []
    step = steps[0]
    start = (room, step[0])
    webs = []
    for end in ends_for(counts, leads, start, step, most):
        if len(webs) < enough:
            further = counts if end[0] < len(counts) else counts + (step[2],)
            webs.extend(webs_by(further, tied(leads, start, end), end[0], steps[1:], most, enough - len(webs)))
    return webs


def webs_of_story(story, most, enough):
    return webs_by((story[0],), {}, 0, story[1], most, enough)


def fitting(story, most):
    webs = webs_of_story(story, most, MOST_TOLD + 1)
    if len(webs) > MOST_TOLD:
        raise TooMany("more webs fit than can be told")
    return sorted([told_from(web, 0) for web in webs], key=lambda web: (len(web), web))


def fewest(story):
    for rooms in range(1, MOST_ROOMS + 1):
        if webs_of_story(story, rooms, 1):
            return rooms
    return None
