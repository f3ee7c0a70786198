"""Stories of ways: what was gone through and seen, and where it may have been."""

from stonewalker.webs import ends_on, gone, seen


def story_of(web, room, way):
    steps = [(door, end[1], len(web[end[0]])) for door, end in zip(way, ends_on(web, room, way))]
    return (len(web[room]), tuple(steps))


def way_of(story):
    return tuple([step[0] for step in story[1]])


def seen_in(story):
    return tuple([story[0]] + [(step[1], step[2]) for step in story[1]])


def fits(web, room, story):
    return seen(web, room, way_of(story)) == seen_in(story)


def stands(web, story):
    rooms = [room for room in range(len(web)) if fits(web, room, story)]
    return [(room, gone(web, room, way_of(story))[0]) for room in rooms]
